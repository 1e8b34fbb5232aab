import PyProof.Rows.All
import Wide.All
import OpenK.AllK
import Wide.FinOn
import HandS.ForMost
import HandS.Wide
import HandS.IsInst
import HandS.Deep
import HandS.TupAny
import HandS.Flow
import HandS.Zip
import HandS.Defaults
import HandS.More
import HandS.DictComp
import HandS.WordsDict
import HandS.OwnEq
import HandS.Style
import HandS.Lambda
import HandS.TryMany
import HandS.ExcInit
import HandS.ExcField
import HandS.ForDict
import HandS.EndTab
import PyProof.Rows.StrMeet
import HandS.Star
import HandS.WordsExc
import HandS.ListItems
import HandS.Finally
import HandS.Small
import KE.KStateDown
import KE.KExcInit
import HandS.Head0
import HandS.Head1
import HandS.Head2
import HandS.HeadEnd
import HandS.HeadHook1
import HandS.HeadHook2
import HandS.HeadHook3
import HandS.HeadHook4
import HandS.HeadWalk
import HandS.HeadNt
import HandS.Walk
import KE.GoesMore
import PyProof.Draws
import HandS.Words
import HandS.DeepEq
import HandS.Sort
import KE.KDictList
import HandS.Iter
import HandS.IterVal
import KE.KOwnIter
import HandS.OwnIter
import HandS.NamedTupGet
import PyProof.DictRoadsH
import KE.KOpsOwn
import KE.KExcMake
import HandS.Exc
import HandS.TryOnly
import HandS.Strs
import KE.KRevSl
import PyProof.DictDisplay
import PyProof.DictTable
import KE.KEqNest
import KE.KDictSum
import PyProof.NeKinds
import PyProof.EqAt
import HandS.SetFor
import PyProof.Rows.InDataRows
import HandS.SortRule
import PySem.Challenge.RW_cookcalls_k23_orders_refused
set_option Elab.async false
set_option linter.all false
set_option maxRecDepth 100000
set_option maxHeartbeats 4000000
namespace K5
open PySem L2
def top (i : Nat) : Stmt := PySem.Challenge.pw_cookcalls_k23_orders_refused.main.body.getD i (.Pass ⟨0, 0, 0, 0⟩)
abbrev s_is_integer : Stmt := top 5
abbrev N_is_integer : List Str := ["thing"]
abbrev P_is_integer : List Str := ["thing"]
theorem sc_is_integer : FnScope N_is_integer P_is_integer (defScope s_is_integer) := ⟨rfl, rfl, rfl, by decide +kernel, rfl, by decide +kernel, by decide +kernel⟩
abbrev s_is_list : Stmt := top 6
abbrev N_is_list : List Str := ["thing"]
abbrev P_is_list : List Str := ["thing"]
theorem sc_is_list : FnScope N_is_list P_is_list (defScope s_is_list) := ⟨rfl, rfl, rfl, by decide +kernel, rfl, by decide +kernel, by decide +kernel⟩
abbrev s_is_name : Stmt := top 7
abbrev N_is_name : List Str := ["thing", "sign"]
abbrev P_is_name : List Str := ["thing"]
theorem sc_is_name : FnScope N_is_name P_is_name (defScope s_is_name) := ⟨rfl, rfl, rfl, by decide +kernel, rfl, by decide +kernel, by decide +kernel⟩
abbrev s_is_dish : Stmt := top 8
abbrev N_is_dish : List Str := ["thing", "dishes"]
abbrev P_is_dish : List Str := ["thing", "dishes"]
theorem sc_is_dish : FnScope N_is_dish P_is_dish (defScope s_is_dish) := ⟨rfl, rfl, rfl, by decide +kernel, rfl, by decide +kernel, by decide +kernel⟩
abbrev s_is_index : Stmt := top 9
abbrev N_is_index : List Str := ["thing", "rows"]
abbrev P_is_index : List Str := ["thing", "rows"]
theorem sc_is_index : FnScope N_is_index P_is_index (defScope s_is_index) := ⟨rfl, rfl, rfl, by decide +kernel, rfl, by decide +kernel, by decide +kernel⟩
abbrev s_alike : Stmt := top 10
abbrev N_alike : List Str := ["one", "other", "mine", "yours"]
abbrev P_alike : List Str := ["one", "other"]
theorem sc_alike : FnScope N_alike P_alike (defScope s_alike) := ⟨rfl, rfl, rfl, by decide +kernel, rfl, by decide +kernel, by decide +kernel⟩
abbrev s_copied : Stmt := top 11
abbrev N_copied : List Str := ["thing", "part", "key"]
abbrev P_copied : List Str := ["thing"]
theorem sc_copied : FnScope N_copied P_copied (defScope s_copied) := ⟨rfl, rfl, rfl, by decide +kernel, rfl, by decide +kernel, by decide +kernel⟩
abbrev s_BadOrder___init__ : Stmt := inClass (top 26) 0
abbrev N_BadOrder___init__ : List Str := ["self", "index"]
abbrev P_BadOrder___init__ : List Str := ["self", "index"]
theorem sc_BadOrder___init__ : FnScope N_BadOrder___init__ P_BadOrder___init__ (defScope s_BadOrder___init__) := ⟨rfl, rfl, rfl, by decide +kernel, rfl, by decide +kernel, by decide +kernel⟩
abbrev s_NoRow___init__ : Stmt := inClass (top 27) 0
abbrev N_NoRow___init__ : List Str := ["self", "row"]
abbrev P_NoRow___init__ : List Str := ["self", "row"]
theorem sc_NoRow___init__ : FnScope N_NoRow___init__ P_NoRow___init__ (defScope s_NoRow___init__) := ⟨rfl, rfl, rfl, by decide +kernel, rfl, by decide +kernel, by decide +kernel⟩
abbrev s_is_bounds : Stmt := top 30
abbrev N_is_bounds : List Str := ["thing", "least", "most"]
abbrev P_is_bounds : List Str := ["thing"]
theorem sc_is_bounds : FnScope N_is_bounds P_is_bounds (defScope s_is_bounds) := ⟨rfl, rfl, rfl, by decide +kernel, rfl, by decide +kernel, by decide +kernel⟩
abbrev s_is_moment : Stmt := top 31
abbrev N_is_moment : List Str := ["thing", "dishes"]
abbrev P_is_moment : List Str := ["thing", "dishes"]
theorem sc_is_moment : FnScope N_is_moment P_is_moment (defScope s_is_moment) := ⟨rfl, rfl, rfl, by decide +kernel, rfl, by decide +kernel, by decide +kernel⟩
abbrev s_is_wish : Stmt := top 32
abbrev N_is_wish : List Str := ["thing", "dishes", "one", "other", "most"]
abbrev P_is_wish : List Str := ["thing", "dishes"]
theorem sc_is_wish : FnScope N_is_wish P_is_wish (defScope s_is_wish) := ⟨rfl, rfl, rfl, by decide +kernel, rfl, by decide +kernel, by decide +kernel⟩
abbrev s_is_station : Stmt := top 33
abbrev N_is_station : List Str := ["thing", "dishes", "name"]
abbrev P_is_station : List Str := ["thing", "dishes"]
theorem sc_is_station : FnScope N_is_station P_is_station (defScope s_is_station) := ⟨rfl, rfl, rfl, by decide +kernel, rfl, by decide +kernel, by decide +kernel⟩
abbrev s_as_moment : Stmt := top 34
abbrev N_as_moment : List Str := ["moment"]
abbrev P_as_moment : List Str := ["moment"]
theorem sc_as_moment : FnScope N_as_moment P_as_moment (defScope s_as_moment) := ⟨rfl, rfl, rfl, by decide +kernel, rfl, by decide +kernel, by decide +kernel⟩
abbrev s_as_wish : Stmt := top 35
abbrev N_as_wish : List Str := ["wish", "one", "other", "most"]
abbrev P_as_wish : List Str := ["wish"]
theorem sc_as_wish : FnScope N_as_wish P_as_wish (defScope s_as_wish) := ⟨rfl, rfl, rfl, by decide +kernel, rfl, by decide +kernel, by decide +kernel⟩
abbrev s_check_same : Stmt := top 38
abbrev N_check_same : List Str := ["meal", "tree"]
abbrev P_check_same : List Str := ["meal", "tree"]
theorem sc_check_same : FnScope N_check_same P_check_same (defScope s_check_same) := ⟨rfl, rfl, rfl, by decide +kernel, rfl, by decide +kernel, by decide +kernel⟩
abbrev s_check_orders : Stmt := top 39
abbrev N_check_orders : List Str := ["orders", "dishes", "index", "thing"]
abbrev P_check_orders : List Str := ["orders", "dishes"]
theorem sc_check_orders : FnScope N_check_orders P_check_orders (defScope s_check_orders) := ⟨rfl, rfl, rfl, by decide +kernel, rfl, by decide +kernel, by decide +kernel⟩
abbrev s_is_order : Stmt := top 40
abbrev N_is_order : List Str := ["thing", "dishes", "first", "later"]
abbrev P_is_order : List Str := ["thing", "dishes"]
theorem sc_is_order : FnScope N_is_order P_is_order (defScope s_is_order) := ⟨rfl, rfl, rfl, by decide +kernel, rfl, by decide +kernel, by decide +kernel⟩
abbrev s_way_up : Stmt := top 42
abbrev N_way_up : List Str := ["name", "hooks", "names", "hook"]
abbrev P_way_up : List Str := ["name", "hooks"]
theorem sc_way_up : FnScope N_way_up P_way_up (defScope s_way_up) := ⟨rfl, rfl, rfl, by decide +kernel, rfl, by decide +kernel, by decide +kernel⟩
abbrev s_way_of : Stmt := top 43
abbrev N_way_of : List Str := ["moment", "hooks", "edge", "name", "way"]
abbrev P_way_of : List Str := ["moment", "hooks"]
theorem sc_way_of : FnScope N_way_of P_way_of (defScope s_way_of) := ⟨rfl, rfl, rfl, by decide +kernel, rfl, by decide +kernel, by decide +kernel⟩
abbrev s_dish_of : Stmt := top 44
abbrev N_dish_of : List Str := ["moment"]
abbrev P_dish_of : List Str := ["moment"]
theorem sc_dish_of : FnScope N_dish_of P_dish_of (defScope s_dish_of) := ⟨rfl, rfl, rfl, by decide +kernel, rfl, by decide +kernel, by decide +kernel⟩
abbrev s_spread : Stmt := top 45
abbrev N_spread : List Str := ["one", "other", "hooks", "bounds"]
abbrev P_spread : List Str := ["one", "other", "hooks", "bounds"]
theorem sc_spread : FnScope N_spread P_spread (defScope s_spread) := ⟨rfl, rfl, rfl, by decide +kernel, rfl, by decide +kernel, by decide +kernel⟩
abbrev s_most_longer : Stmt := top 46
abbrev N_most_longer : List Str := ["mine", "yours", "bounds", "longest", "name"]
abbrev P_most_longer : List Str := ["mine", "yours", "bounds"]
theorem sc_most_longer : FnScope N_most_longer P_most_longer (defScope s_most_longer) := ⟨rfl, rfl, rfl, by decide +kernel, rfl, by decide +kernel, by decide +kernel⟩
abbrev s_Hanging___init__ : Stmt := inClass (top 48) 0
abbrev N_Hanging___init__ : List Str := ["self", "rows", "name"]
abbrev P_Hanging___init__ : List Str := ["self", "rows"]
theorem sc_Hanging___init__ : FnScope N_Hanging___init__ P_Hanging___init__ (defScope s_Hanging___init__) := ⟨rfl, rfl, rfl, by decide +kernel, rfl, by decide +kernel, by decide +kernel⟩
abbrev s_Hanging_rows : Stmt := inClass (top 48) 1
abbrev N_Hanging_rows : List Str := ["self"]
abbrev P_Hanging_rows : List Str := ["self"]
theorem sc_Hanging_rows : FnScope N_Hanging_rows P_Hanging_rows (defScope s_Hanging_rows) := ⟨rfl, rfl, rfl, by decide +kernel, rfl, by decide +kernel, by decide +kernel⟩
abbrev s_Hanging___iter__ : Stmt := inClass (top 48) 5
abbrev N_Hanging___iter__ : List Str := ["self"]
abbrev P_Hanging___iter__ : List Str := ["self"]
theorem sc_Hanging___iter__ : FnScope N_Hanging___iter__ P_Hanging___iter__ (defScope s_Hanging___iter__) := ⟨rfl, rfl, rfl, by decide +kernel, rfl, by decide +kernel, by decide +kernel⟩
abbrev s_check_rows : Stmt := top 49
abbrev N_check_rows : List Str := ["rows", "name"]
abbrev P_check_rows : List Str := ["rows"]
theorem sc_check_rows : FnScope N_check_rows P_check_rows (defScope s_check_rows) := ⟨rfl, rfl, rfl, by decide +kernel, rfl, by decide +kernel, by decide +kernel⟩
abbrev s_is_hook : Stmt := top 50
abbrev N_is_hook : List Str := ["thing", "rows", "key"]
abbrev P_is_hook : List Str := ["thing", "rows"]
theorem sc_is_hook : FnScope N_is_hook P_is_hook (defScope s_is_hook) := ⟨rfl, rfl, rfl, by decide +kernel, rfl, by decide +kernel, by decide +kernel⟩
abbrev s_check_rounds : Stmt := top 51
abbrev N_check_rounds : List Str := ["hooks", "name", "names"]
abbrev P_check_rounds : List Str := ["hooks"]
theorem sc_check_rounds : FnScope N_check_rounds P_check_rounds (defScope s_check_rounds) := ⟨rfl, rfl, rfl, by decide +kernel, rfl, by decide +kernel, by decide +kernel⟩
abbrev s_round_from : Stmt := top 52
abbrev N_round_from : List Str := ["name", "hooks", "names", "hook"]
abbrev P_round_from : List Str := ["name", "hooks"]
theorem sc_round_from : FnScope N_round_from P_round_from (defScope s_round_from) := ⟨rfl, rfl, rfl, by decide +kernel, rfl, by decide +kernel, by decide +kernel⟩
abbrev s_Book___init__ : Stmt := inClass (top 54) 0
abbrev N_Book___init__ : List Str := ["self", "rows", "name"]
abbrev P_Book___init__ : List Str := ["self", "rows"]
theorem sc_Book___init__ : FnScope N_Book___init__ P_Book___init__ (defScope s_Book___init__) := ⟨rfl, rfl, rfl, by decide +kernel, rfl, by decide +kernel, by decide +kernel⟩
abbrev s_Book_of : Stmt := inClass (top 54) 1
abbrev N_Book_of : List Str := ["hanging", "sums", "hooks", "waits", "name"]
abbrev P_Book_of : List Str := ["hanging", "sums"]
theorem sc_Book_of : FnScope N_Book_of P_Book_of (defScope s_Book_of) := ⟨rfl, rfl, rfl, by decide +kernel, rfl, by decide +kernel, by decide +kernel⟩
abbrev s_check_entries : Stmt := top 55
abbrev N_check_entries : List Str := ["rows", "name"]
abbrev P_check_entries : List Str := ["rows"]
theorem sc_check_entries : FnScope N_check_entries P_check_entries (defScope s_check_entries) := ⟨rfl, rfl, rfl, by decide +kernel, rfl, by decide +kernel, by decide +kernel⟩
abbrev s_is_entry : Stmt := top 56
abbrev N_is_entry : List Str := ["thing", "rows", "hook", "wait"]
abbrev P_is_entry : List Str := ["thing", "rows"]
theorem sc_is_entry : FnScope N_is_entry P_is_entry (defScope s_is_entry) := ⟨rfl, rfl, rfl, by decide +kernel, rfl, by decide +kernel, by decide +kernel⟩
abbrev s_is_wait : Stmt := top 57
abbrev N_is_wait : List Str := ["thing"]
abbrev P_is_wait : List Str := ["thing"]
theorem sc_is_wait : FnScope N_is_wait P_is_wait (defScope s_is_wait) := ⟨rfl, rfl, rfl, by decide +kernel, rfl, by decide +kernel, by decide +kernel⟩
abbrev s_check_waits : Stmt := top 58
abbrev N_check_waits : List Str := ["waits", "name"]
abbrev P_check_waits : List Str := ["waits"]
theorem sc_check_waits : FnScope N_check_waits P_check_waits (defScope s_check_waits) := ⟨rfl, rfl, rfl, by decide +kernel, rfl, by decide +kernel, by decide +kernel⟩
abbrev s_sum_ahead : Stmt := top 61
abbrev N_sum_ahead : List Str := ["hook", "sums"]
abbrev P_sum_ahead : List Str := ["hook", "sums"]
theorem sc_sum_ahead : FnScope N_sum_ahead P_sum_ahead (defScope s_sum_ahead) := ⟨rfl, rfl, rfl, by decide +kernel, rfl, by decide +kernel, by decide +kernel⟩
abbrev s_raised : Stmt := top 63
abbrev N_raised : List Str := ["sums", "rows", "least", "causes", "turn", "risen", "row", "start", "end", "number", "name"]
abbrev P_raised : List Str := ["sums", "rows"]
theorem sc_raised : FnScope N_raised P_raised (defScope s_raised) := ⟨rfl, rfl, rfl, by decide +kernel, rfl, by decide +kernel, by decide +kernel⟩
abbrev s_ring_behind : Stmt := top 64
abbrev N_ring_behind : List Str := ["node", "causes", "at", "turn", "ring"]
abbrev P_ring_behind : List Str := ["node", "causes"]
theorem sc_ring_behind : FnScope N_ring_behind P_ring_behind (defScope s_ring_behind) := ⟨rfl, rfl, rfl, by decide +kernel, rfl, by decide +kernel, by decide +kernel⟩
abbrev s_bounded : Stmt := top 65
abbrev N_bounded : List Str := ["source", "rows", "turns", "greatest", "turn", "start", "end", "number", "name"]
abbrev P_bounded : List Str := ["source", "rows", "turns"]
theorem sc_bounded : FnScope N_bounded P_bounded (defScope s_bounded) := ⟨rfl, rfl, rfl, by decide +kernel, rfl, by decide +kernel, by decide +kernel⟩
abbrev s_wish_as_row : Stmt := top 67
abbrev N_wish_as_row : List Str := ["wish", "hooks", "bounds", "one", "other", "most"]
abbrev P_wish_as_row : List Str := ["wish", "hooks", "bounds"]
theorem sc_wish_as_row : FnScope N_wish_as_row P_wish_as_row (defScope s_wish_as_row) := ⟨rfl, rfl, rfl, by decide +kernel, rfl, by decide +kernel, by decide +kernel⟩
abbrev s_order_as_wish : Stmt := top 68
abbrev N_order_as_wish : List Str := ["order", "first", "later"]
abbrev P_order_as_wish : List Str := ["order"]
theorem sc_order_as_wish : FnScope N_order_as_wish P_order_as_wish (defScope s_order_as_wish) := ⟨rfl, rfl, rfl, by decide +kernel, rfl, by decide +kernel, by decide +kernel⟩
abbrev s_found_row : Stmt := top 69
abbrev N_found_row : List Str := ["row", "hooks", "meal", "orders", "kind", "which", "wish"]
abbrev P_found_row : List Str := ["row", "hooks", "meal", "orders"]
theorem sc_found_row : FnScope N_found_row P_found_row (defScope s_found_row) := ⟨rfl, rfl, rfl, by decide +kernel, rfl, by decide +kernel, by decide +kernel⟩
abbrev s_found_wish : Stmt := top 70
abbrev N_found_wish : List Str := ["kind", "which", "meal", "orders"]
abbrev P_found_wish : List Str := ["kind", "which", "meal", "orders"]
theorem sc_found_wish : FnScope N_found_wish P_found_wish (defScope s_found_wish) := ⟨rfl, rfl, rfl, by decide +kernel, rfl, by decide +kernel, by decide +kernel⟩
abbrev s_is_between : Stmt := top 71
abbrev N_is_between : List Str := ["wish", "hooks", "dish"]
abbrev P_is_between : List Str := ["wish", "hooks"]
theorem sc_is_between : FnScope N_is_between P_is_between (defScope s_is_between) := ⟨rfl, rfl, rfl, by decide +kernel, rfl, by decide +kernel, by decide +kernel⟩
abbrev s_goes_round : Stmt := top 72
abbrev N_goes_round : List Str := ["thing", "hooks", "meal", "orders", "rows", "joined", "row", "at", "start", "end", "number"]
abbrev P_goes_round : List Str := ["thing", "hooks", "meal", "orders"]
theorem sc_goes_round : FnScope N_goes_round P_goes_round (defScope s_goes_round) := ⟨rfl, rfl, rfl, by decide +kernel, rfl, by decide +kernel, by decide +kernel⟩
abbrev s_all_rows : Stmt := top 73
abbrev N_all_rows : List Str := ["meal", "hooks", "orders", "names", "name", "index"]
abbrev P_all_rows : List Str := ["meal", "hooks", "orders"]
theorem sc_all_rows : FnScope N_all_rows P_all_rows (defScope s_all_rows) := ⟨rfl, rfl, rfl, by decide +kernel, rfl, by decide +kernel, by decide +kernel⟩
abbrev s_earliest : Stmt := top 75
abbrev N_earliest : List Str := ["meal", "hanging", "orders", "sums", "rows"]
abbrev P_earliest : List Str := ["meal", "hanging", "orders"]
theorem sc_earliest : FnScope N_earliest P_earliest (defScope s_earliest) := ⟨rfl, rfl, rfl, by decide +kernel, rfl, by decide +kernel, by decide +kernel⟩
abbrev s_latest : Stmt := top 76
abbrev N_latest : List Str := ["meal", "hanging", "orders", "sums", "rows", "hooks", "greatest", "name"]
abbrev P_latest : List Str := ["meal", "hanging", "orders"]
theorem sc_latest : FnScope N_latest P_latest (defScope s_latest) := ⟨rfl, rfl, rfl, by decide +kernel, rfl, by decide +kernel, by decide +kernel⟩
abbrev s_ring : Stmt := top 77
abbrev N_ring : List Str := ["meal", "hanging", "orders", "sums", "rows", "row"]
abbrev P_ring : List Str := ["meal", "hanging", "orders"]
theorem sc_ring : FnScope N_ring P_ring (defScope s_ring) := ⟨rfl, rfl, rfl, by decide +kernel, rfl, by decide +kernel, by decide +kernel⟩
abbrev s_least_sums : Stmt := top 78
abbrev N_least_sums : List Str := ["meal", "hanging", "orders", "hooks", "name"]
abbrev P_least_sums : List Str := ["meal", "hanging", "orders"]
theorem sc_least_sums : FnScope N_least_sums P_least_sums (defScope s_least_sums) := ⟨rfl, rfl, rfl, by decide +kernel, rfl, by decide +kernel, by decide +kernel⟩
abbrev s_is_ring : Stmt := top 79
abbrev N_is_ring : List Str := ["meal", "hanging", "orders", "thing"]
abbrev P_is_ring : List Str := ["meal", "hanging", "orders", "thing"]
theorem sc_is_ring : FnScope N_is_ring P_is_ring (defScope s_is_ring) := ⟨rfl, rfl, rfl, by decide +kernel, rfl, by decide +kernel, by decide +kernel⟩
abbrev s_row_of : Stmt := top 80
abbrev N_row_of : List Str := ["meal", "hanging", "orders", "row", "found"]
abbrev P_row_of : List Str := ["meal", "hanging", "orders", "row"]
theorem sc_row_of : FnScope N_row_of P_row_of (defScope s_row_of) := ⟨rfl, rfl, rfl, by decide +kernel, rfl, by decide +kernel, by decide +kernel⟩
abbrev s_Meal___init__ : Stmt := inClass (top 82) 0
abbrev N_Meal___init__ : List Str := ["self", "dishes", "wishes", "stations", "name", "wish", "station"]
abbrev P_Meal___init__ : List Str := ["self", "dishes", "wishes", "stations"]
theorem sc_Meal___init__ : FnScope N_Meal___init__ P_Meal___init__ (defScope s_Meal___init__) := ⟨rfl, rfl, rfl, by decide +kernel, rfl, by decide +kernel, by decide +kernel⟩
abbrev s_Meal_dishes : Stmt := inClass (top 82) 1
abbrev N_Meal_dishes : List Str := ["self"]
abbrev P_Meal_dishes : List Str := ["self"]
theorem sc_Meal_dishes : FnScope N_Meal_dishes P_Meal_dishes (defScope s_Meal_dishes) := ⟨rfl, rfl, rfl, by decide +kernel, rfl, by decide +kernel, by decide +kernel⟩
abbrev s_Meal_wishes : Stmt := inClass (top 82) 2
abbrev N_Meal_wishes : List Str := ["self"]
abbrev P_Meal_wishes : List Str := ["self"]
theorem sc_Meal_wishes : FnScope N_Meal_wishes P_Meal_wishes (defScope s_Meal_wishes) := ⟨rfl, rfl, rfl, by decide +kernel, rfl, by decide +kernel, by decide +kernel⟩
abbrev s_Meal___len__ : Stmt := inClass (top 82) 7
abbrev N_Meal___len__ : List Str := ["self"]
abbrev P_Meal___len__ : List Str := ["self"]
theorem sc_Meal___len__ : FnScope N_Meal___len__ P_Meal___len__ (defScope s_Meal___len__) := ⟨rfl, rfl, rfl, by decide +kernel, rfl, by decide +kernel, by decide +kernel⟩
abbrev s_Meal___iter__ : Stmt := inClass (top 82) 9
abbrev N_Meal___iter__ : List Str := ["self"]
abbrev P_Meal___iter__ : List Str := ["self"]
theorem sc_Meal___iter__ : FnScope N_Meal___iter__ P_Meal___iter__ (defScope s_Meal___iter__) := ⟨rfl, rfl, rfl, by decide +kernel, rfl, by decide +kernel, by decide +kernel⟩
abbrev s_check_dishes : Stmt := top 83
abbrev N_check_dishes : List Str := ["dishes", "name"]
abbrev P_check_dishes : List Str := ["dishes"]
theorem sc_check_dishes : FnScope N_check_dishes P_check_dishes (defScope s_check_dishes) := ⟨rfl, rfl, rfl, by decide +kernel, rfl, by decide +kernel, by decide +kernel⟩
abbrev s_check_wishes : Stmt := top 84
abbrev N_check_wishes : List Str := ["wishes", "dishes", "index", "thing"]
abbrev P_check_wishes : List Str := ["wishes", "dishes"]
theorem sc_check_wishes : FnScope N_check_wishes P_check_wishes (defScope s_check_wishes) := ⟨rfl, rfl, rfl, by decide +kernel, rfl, by decide +kernel, by decide +kernel⟩
abbrev s_check_stations : Stmt := top 85
abbrev N_check_stations : List Str := ["stations", "dishes", "index", "thing"]
abbrev P_check_stations : List Str := ["stations", "dishes"]
theorem sc_check_stations : FnScope N_check_stations P_check_stations (defScope s_check_stations) := ⟨rfl, rfl, rfl, by decide +kernel, rfl, by decide +kernel, by decide +kernel⟩
abbrev s__law_fresh : Stmt := top 87
abbrev N__law_fresh : List Str := ["_law_script"]
abbrev P__law_fresh : List Str := ["_law_script"]
theorem sc__law_fresh : FnScope N__law_fresh P__law_fresh (defScope s__law_fresh) := ⟨rfl, rfl, rfl, by decide +kernel, rfl, by decide +kernel, by decide +kernel⟩
abbrev s__law_take : Stmt := top 88
abbrev N__law_take : List Str := ["_law_state", "_law_many", "_law_cell", "_law_digit", "_law_mixed"]
abbrev P__law_take : List Str := ["_law_state", "_law_many"]
theorem sc__law_take : FnScope N__law_take P__law_take (defScope s__law_take) := ⟨rfl, rfl, rfl, by decide +kernel, rfl, by decide +kernel, by decide +kernel⟩
abbrev s__law_one : Stmt := top 89
abbrev N__law_one : List Str := ["_law_state", "_law_things"]
abbrev P__law_one : List Str := ["_law_state", "_law_things"]
theorem sc__law_one : FnScope N__law_one P__law_one (defScope s__law_one) := ⟨rfl, rfl, rfl, by decide +kernel, rfl, by decide +kernel, by decide +kernel⟩
abbrev s__law_mix : Stmt := top 90
abbrev N__law_mix : List Str := ["_law_state", "_law_things", "_law_left", "_law_found"]
abbrev P__law_mix : List Str := ["_law_state", "_law_things"]
theorem sc__law_mix : FnScope N__law_mix P__law_mix (defScope s__law_mix) := ⟨rfl, rfl, rfl, by decide +kernel, rfl, by decide +kernel, by decide +kernel⟩
abbrev s__law_some : Stmt := top 91
abbrev N__law_some : List Str := ["_law_state", "_law_things", "_law_thing"]
abbrev P__law_some : List Str := ["_law_state", "_law_things"]
theorem sc__law_some : FnScope N__law_some P__law_some (defScope s__law_some) := ⟨rfl, rfl, rfl, by decide +kernel, rfl, by decide +kernel, by decide +kernel⟩
abbrev s__law_same : Stmt := top 92
abbrev N__law_same : List Str := ["_law_found", "_law_due", "_law_x", "_law_y"]
abbrev P__law_same : List Str := ["_law_found", "_law_due"]
theorem sc__law_same : FnScope N__law_same P__law_same (defScope s__law_same) := ⟨rfl, rfl, rfl, by decide +kernel, rfl, by decide +kernel, by decide +kernel⟩
abbrev s__law_loose : Stmt := top 93
abbrev N__law_loose : List Str := ["_law_state", "_law_thing", "_law_found", "_law_x"]
abbrev P__law_loose : List Str := ["_law_state", "_law_thing"]
theorem sc__law_loose : FnScope N__law_loose P__law_loose (defScope s__law_loose) := ⟨rfl, rfl, rfl, by decide +kernel, rfl, by decide +kernel, by decide +kernel⟩
abbrev s__law_names : Stmt := top 94
abbrev N__law_names : List Str := ["_law_state", "_law_many", "_law_some_here"]
abbrev P__law_names : List Str := ["_law_state", "_law_many"]
theorem sc__law_names : FnScope N__law_names P__law_names (defScope s__law_names) := ⟨rfl, rfl, rfl, by decide +kernel, rfl, by decide +kernel, by decide +kernel⟩
abbrev s__law_dishes : Stmt := top 95
abbrev N__law_dishes : List Str := ["_law_state", "_law_names_here", "_law_wide", "_law_found", "_law_name", "_law_least"]
abbrev P__law_dishes : List Str := ["_law_state", "_law_names_here", "_law_wide"]
theorem sc__law_dishes : FnScope N__law_dishes P__law_dishes (defScope s__law_dishes) := ⟨rfl, rfl, rfl, by decide +kernel, rfl, by decide +kernel, by decide +kernel⟩
abbrev s__law_hung : Stmt := top 96
abbrev N__law_hung : List Str := ["_law_state", "_law_names_here", "_law_row", "_law_found", "_law_k", "_law_name"]
abbrev P__law_hung : List Str := ["_law_state", "_law_names_here"]
theorem sc__law_hung : FnScope N__law_hung P__law_hung (defScope s__law_hung) := ⟨rfl, rfl, rfl, by decide +kernel, rfl, by decide +kernel, by decide +kernel⟩
abbrev s__law_tried : Stmt := top 97
abbrev N__law_tried : List Str := ["_law_ask", "_law_found", "e"]
abbrev P__law_tried : List Str := ["_law_ask"]
theorem sc__law_tried : FnScope N__law_tried P__law_tried (defScope s__law_tried) := ⟨rfl, rfl, rfl, by decide +kernel, rfl, by decide +kernel, by decide +kernel⟩
abbrev s_law : Stmt := top 98
abbrev N_law : List Str := ["_law_script", "_law_state", "_law_turn", "_law_names_here", "_law_meal", "_law_hanging", "_law_good", "_law_odd", "_law_at", "_law_bent", "_law_given", "_law_due", "_law_found", "_law_wanted", "_law_k"]
abbrev P_law : List Str := ["_law_script"]
theorem sc_law : FnScope N_law P_law (defScope s_law) := ⟨rfl, rfl, rfl, by decide +kernel, rfl, by decide +kernel, by decide +kernel⟩
end K5
set_option Elab.async false
set_option linter.all false
set_option maxRecDepth 100000
set_option maxHeartbeats 0
namespace K5
open PySem PySem.Spec PyProof.Rows L2

theorem mi_of {K : PySem.W.Frag} {x m : Str} (c : (He.Fa.meth x m).ok K = true) : PySem.W.findIn K (.ref (He.ga K x)) m = some (some (.ref (He.ma K (He.ga K x) m))) ∧ PySem.W.isFn K (.ref (He.ma K (He.ga K x) m)) = true := ⟨(He.meth_ok c).at_, (He.meth_ok c).fn⟩
def mroB (K : PySem.W.Frag) (C : Addr) : Bool := match K.lookup C with
  | some ⟨_, _, .cls cd, _⟩ => cd.hasDict && PySem.HandSPX.refsVE (cd.mro.drop 1)
  | _ => false
theorem oex_of {K : PySem.W.Frag} {h : Heap} {C : Addr} (X : K.In h) (q : PySem.W.excInitIn K C He.veBase "ValueError.__new__" = true) (m : mroB K C = true) (sa : PySem.W.findIn K (.ref C) "__setattr__" = some (some (.builtin "object.__setattr__")))
    (sx : PySem.W.subIn K (.ref C) (.type "BaseException") = some true) (ty : PySem.W.typeIn K (.ref C) = some (.type "type")) (ke : PySem.W.keepIn K (.ref C) = true) : OexC K C := by
  obtain ⟨nm, N, qn, bs, bm, hd, sn, sub, ab, col, dd, k0, k1, k2, k3, k5, e, _⟩ := PySem.W.excInit_of X q
  cases z : K.lookup C with
  | none =>
    unfold mroB at m
    rw [z] at m
    cases m
  | some o =>
    have e2 := X _ _ z
    rw [e] at e2
    cases e2
    unfold mroB at m
    rw [z] at m
    have m2 : (hd && PySem.HandSPX.refsVE bm) = true := m
    obtain ⟨m3, m4⟩ := He.ba m2
    subst m3
    exact ⟨⟨nm, qn, N, bs, bm, sn, sub, ab, col, dd, k0, k1, k2, k3, k5, z, m4⟩, sa, sx, ty, ke⟩
def tupA (K : PySem.W.Frag) (a : Addr) (vs : List V) : Bool := match K.lookup a with
  | some ⟨.type c, _, .seq its _, _⟩ => decide (c = "tuple") && (decide (its.size ≤ sizeLine) && He.relAll vs its.toList)
  | _ => false
theorem tupA_ok {K : PySem.W.Frag} {a : Addr} {vs : List V} (h : tupA K a vs = true) (H : Hp) : SqT K H a vs := by
  unfold tupA at h
  split at h
  · rename_i c od its n sl q
    obtain ⟨h1, h2⟩ := He.ba h
    obtain ⟨h3, h4⟩ := He.ba h2
    exact .inr ⟨_, its, n, q, congrArg Value.type (of_decide_eq_true h1), rfl, of_decide_eq_true h3, He.relAll_ok h4⟩
  · cases h
theorem atB {bs : List Bool} (h : bs.all id = true) {i : Nat} {b : Bool} (e : bs[i]? = some b) : b = true := List.all_eq_true.mp h b (List.mem_of_getElem? e)

def fnWa (K : PySem.W.Frag) (a : Addr) : He.FnW := match K.lookup a with
  | some ⟨_, _, .func fd, _⟩ => some (fd.name, fd.qualname, fd.params, fd.body, fd.scope, fd.globals, fd.closure, fd.builtins)
  | _ => none
def nthW : List He.FnW → Nat → He.FnW
  | x :: _, 0 => x
  | _ :: r, n + 1 => nthW r n
  | [], _ => none
def okAd (K : PySem.W.Frag) (a : Addr) (d : He.DefD) : Bool := PySem.W.keepIn K (.ref a) && (match K.lookup a with
  | some ⟨_, _, .func fd, _⟩ => PySem.W.codeIn K fd.code d.qual && (He.dflB K fd.defaults (d.dvs K) && He.kwdB K fd.kwdefaults (d.kws K))
  | _ => false)
theorem funDa {K : PySem.W.Frag} {a : Addr} {d : He.DefD} (e : fnWa K a = d.val) (c : okAd K a d = true) : ∃ fd, FunD K d.name d.qual d.params d.body d.scope (d.dvs K) (d.kws K) a fd := by
  obtain ⟨kp, c2⟩ := He.ba c
  unfold fnWa at e
  cases q : K.lookup a with
  | none => rw [q] at c2; cases c2
  | some o =>
    obtain ⟨oc, od, dt, osl⟩ := o
    rw [q] at c2 e
    cases dt with
    | func fd =>
      obtain ⟨n1, n2, n3, n4, n5, n6, n7, n8, n9, n10, n11, n12, n13, n14, n15⟩ := fd
      have e2 : (some (n1, n2, n3, n4, n5, n6, n7, n15) : He.FnW) = some (d.name, d.qual, d.params, .stmts d.body, d.scope, mainGlobals, [], builtinsNs) := e
      simp only [Option.some.injEq, Prod.mk.injEq] at e2
      obtain ⟨h1, h2, h3, h4, h5, h6, h7, h8⟩ := e2
      subst h1 h2 h3 h4 h5 h6 h7 h8
      have c3 : (PySem.W.codeIn K n13 d.qual && (He.dflB K n8 (d.dvs K) && He.kwdB K n9 (d.kws K))) = true := c2
      obtain ⟨k1, k2⟩ := He.ba c3
      obtain ⟨k3, k4⟩ := He.ba k2
      exact ⟨_, ⟨oc, od, n8, n9, n10, n11, n12, n13, n14, osl, rfl, q, k1, He.dflB_ok k3, He.kwdB_ok k4⟩, kp⟩
    | _ => cases c2
def stA (K : PySem.W.Frag) (x m : Str) : Addr := He5.wf K (He.ga K x) "staticmethod" m
def staB (K : PySem.W.Frag) (x m : Str) (d : He.DefD) : Bool := decide (PySem.W.typeIn K (.ref (He.ga K x)) = some (.type "type")) && (PySem.W.readsIn K (He.ga K x) (.type "type") && (decide (PySem.W.specialIn K (.ref (He.ga K x)) "__getattribute__" = some (some (.builtin "type.__getattribute__"))) && (He5.wrapB K (He.ga K x) "staticmethod" "staticmethod.__get__" m && okAd K (stA K x m) d)))
def dd_is_integer : He.DefD := ⟨("is_integer", none), "is_integer", "is_integer", defArgs s_is_integer, defBody s_is_integer, defScope s_is_integer, [], []⟩
def dd_is_list : He.DefD := ⟨("is_list", none), "is_list", "is_list", defArgs s_is_list, defBody s_is_list, defScope s_is_list, [], []⟩
def dd_is_name : He.DefD := ⟨("is_name", none), "is_name", "is_name", defArgs s_is_name, defBody s_is_name, defScope s_is_name, [], []⟩
def dd_is_dish : He.DefD := ⟨("is_dish", none), "is_dish", "is_dish", defArgs s_is_dish, defBody s_is_dish, defScope s_is_dish, [], []⟩
def dd_is_index : He.DefD := ⟨("is_index", none), "is_index", "is_index", defArgs s_is_index, defBody s_is_index, defScope s_is_index, [], []⟩
def dd_alike : He.DefD := ⟨("alike", none), "alike", "alike", defArgs s_alike, defBody s_alike, defScope s_alike, [], []⟩
def dd_copied : He.DefD := ⟨("copied", none), "copied", "copied", defArgs s_copied, defBody s_copied, defScope s_copied, [], []⟩
def dd_BadOrder___init__ : He.DefD := ⟨("BadOrder", some "__init__"), "__init__", "BadOrder.__init__", defArgs s_BadOrder___init__, defBody s_BadOrder___init__, defScope s_BadOrder___init__, [], []⟩
def dd_NoRow___init__ : He.DefD := ⟨("NoRow", some "__init__"), "__init__", "NoRow.__init__", defArgs s_NoRow___init__, defBody s_NoRow___init__, defScope s_NoRow___init__, [], []⟩
def dd_is_bounds : He.DefD := ⟨("is_bounds", none), "is_bounds", "is_bounds", defArgs s_is_bounds, defBody s_is_bounds, defScope s_is_bounds, [], []⟩
def dd_is_moment : He.DefD := ⟨("is_moment", none), "is_moment", "is_moment", defArgs s_is_moment, defBody s_is_moment, defScope s_is_moment, [], []⟩
def dd_is_wish : He.DefD := ⟨("is_wish", none), "is_wish", "is_wish", defArgs s_is_wish, defBody s_is_wish, defScope s_is_wish, [], []⟩
def dd_is_station : He.DefD := ⟨("is_station", none), "is_station", "is_station", defArgs s_is_station, defBody s_is_station, defScope s_is_station, [], []⟩
def dd_as_moment : He.DefD := ⟨("as_moment", none), "as_moment", "as_moment", defArgs s_as_moment, defBody s_as_moment, defScope s_as_moment, [], []⟩
def dd_as_wish : He.DefD := ⟨("as_wish", none), "as_wish", "as_wish", defArgs s_as_wish, defBody s_as_wish, defScope s_as_wish, [], []⟩
def dd_check_same : He.DefD := ⟨("check_same", none), "check_same", "check_same", defArgs s_check_same, defBody s_check_same, defScope s_check_same, [], []⟩
def dd_check_orders : He.DefD := ⟨("check_orders", none), "check_orders", "check_orders", defArgs s_check_orders, defBody s_check_orders, defScope s_check_orders, [], []⟩
def dd_is_order : He.DefD := ⟨("is_order", none), "is_order", "is_order", defArgs s_is_order, defBody s_is_order, defScope s_is_order, [], []⟩
def dd_way_up : He.DefD := ⟨("way_up", none), "way_up", "way_up", defArgs s_way_up, defBody s_way_up, defScope s_way_up, [], []⟩
def dd_way_of : He.DefD := ⟨("way_of", none), "way_of", "way_of", defArgs s_way_of, defBody s_way_of, defScope s_way_of, [], []⟩
def dd_dish_of : He.DefD := ⟨("dish_of", none), "dish_of", "dish_of", defArgs s_dish_of, defBody s_dish_of, defScope s_dish_of, [], []⟩
def dd_spread : He.DefD := ⟨("spread", none), "spread", "spread", defArgs s_spread, defBody s_spread, defScope s_spread, [], []⟩
def dd_most_longer : He.DefD := ⟨("most_longer", none), "most_longer", "most_longer", defArgs s_most_longer, defBody s_most_longer, defScope s_most_longer, [], []⟩
def dd_Hanging___init__ : He.DefD := ⟨("Hanging", some "__init__"), "__init__", "Hanging.__init__", defArgs s_Hanging___init__, defBody s_Hanging___init__, defScope s_Hanging___init__, [], []⟩
def dd_Hanging_rows : He.DefD := ⟨("Hanging", some "rows"), "rows", "Hanging.rows", defArgs s_Hanging_rows, defBody s_Hanging_rows, defScope s_Hanging_rows, [], []⟩
def dd_Hanging___iter__ : He.DefD := ⟨("Hanging", some "__iter__"), "__iter__", "Hanging.__iter__", defArgs s_Hanging___iter__, defBody s_Hanging___iter__, defScope s_Hanging___iter__, [], []⟩
def dd_check_rows : He.DefD := ⟨("check_rows", none), "check_rows", "check_rows", defArgs s_check_rows, defBody s_check_rows, defScope s_check_rows, [], []⟩
def dd_is_hook : He.DefD := ⟨("is_hook", none), "is_hook", "is_hook", defArgs s_is_hook, defBody s_is_hook, defScope s_is_hook, [], []⟩
def dd_check_rounds : He.DefD := ⟨("check_rounds", none), "check_rounds", "check_rounds", defArgs s_check_rounds, defBody s_check_rounds, defScope s_check_rounds, [], []⟩
def dd_round_from : He.DefD := ⟨("round_from", none), "round_from", "round_from", defArgs s_round_from, defBody s_round_from, defScope s_round_from, [], []⟩
def dd_Book___init__ : He.DefD := ⟨("Book", some "__init__"), "__init__", "Book.__init__", defArgs s_Book___init__, defBody s_Book___init__, defScope s_Book___init__, [], []⟩
def dd_Book_of : He.DefD := ⟨("Book", some "of"), "of", "Book.of", defArgs s_Book_of, defBody s_Book_of, defScope s_Book_of, [], []⟩
def dd_check_entries : He.DefD := ⟨("check_entries", none), "check_entries", "check_entries", defArgs s_check_entries, defBody s_check_entries, defScope s_check_entries, [], []⟩
def dd_is_entry : He.DefD := ⟨("is_entry", none), "is_entry", "is_entry", defArgs s_is_entry, defBody s_is_entry, defScope s_is_entry, [], []⟩
def dd_is_wait : He.DefD := ⟨("is_wait", none), "is_wait", "is_wait", defArgs s_is_wait, defBody s_is_wait, defScope s_is_wait, [], []⟩
def dd_check_waits : He.DefD := ⟨("check_waits", none), "check_waits", "check_waits", defArgs s_check_waits, defBody s_check_waits, defScope s_check_waits, [], []⟩
def dd_sum_ahead : He.DefD := ⟨("sum_ahead", none), "sum_ahead", "sum_ahead", defArgs s_sum_ahead, defBody s_sum_ahead, defScope s_sum_ahead, [], []⟩
def dd_raised : He.DefD := ⟨("raised", none), "raised", "raised", defArgs s_raised, defBody s_raised, defScope s_raised, [], []⟩
def dd_ring_behind : He.DefD := ⟨("ring_behind", none), "ring_behind", "ring_behind", defArgs s_ring_behind, defBody s_ring_behind, defScope s_ring_behind, [], []⟩
def dd_bounded : He.DefD := ⟨("bounded", none), "bounded", "bounded", defArgs s_bounded, defBody s_bounded, defScope s_bounded, [], []⟩
def dd_wish_as_row : He.DefD := ⟨("wish_as_row", none), "wish_as_row", "wish_as_row", defArgs s_wish_as_row, defBody s_wish_as_row, defScope s_wish_as_row, [], []⟩
def dd_order_as_wish : He.DefD := ⟨("order_as_wish", none), "order_as_wish", "order_as_wish", defArgs s_order_as_wish, defBody s_order_as_wish, defScope s_order_as_wish, [], []⟩
def dd_found_row : He.DefD := ⟨("found_row", none), "found_row", "found_row", defArgs s_found_row, defBody s_found_row, defScope s_found_row, [], []⟩
def dd_found_wish : He.DefD := ⟨("found_wish", none), "found_wish", "found_wish", defArgs s_found_wish, defBody s_found_wish, defScope s_found_wish, [], []⟩
def dd_is_between : He.DefD := ⟨("is_between", none), "is_between", "is_between", defArgs s_is_between, defBody s_is_between, defScope s_is_between, [], []⟩
def dd_goes_round : He.DefD := ⟨("goes_round", none), "goes_round", "goes_round", defArgs s_goes_round, defBody s_goes_round, defScope s_goes_round, [], []⟩
def dd_all_rows : He.DefD := ⟨("all_rows", none), "all_rows", "all_rows", defArgs s_all_rows, defBody s_all_rows, defScope s_all_rows, [], []⟩
def dd_earliest : He.DefD := ⟨("earliest", none), "earliest", "earliest", defArgs s_earliest, defBody s_earliest, defScope s_earliest, [.adr (He.dflAt ("earliest", none) 0)], []⟩
def dd_latest : He.DefD := ⟨("latest", none), "latest", "latest", defArgs s_latest, defBody s_latest, defScope s_latest, [.adr (He.dflAt ("latest", none) 0)], []⟩
def dd_ring : He.DefD := ⟨("ring", none), "ring", "ring", defArgs s_ring, defBody s_ring, defScope s_ring, [.adr (He.dflAt ("ring", none) 0)], []⟩
def dd_least_sums : He.DefD := ⟨("least_sums", none), "least_sums", "least_sums", defArgs s_least_sums, defBody s_least_sums, defScope s_least_sums, [], []⟩
def dd_is_ring : He.DefD := ⟨("is_ring", none), "is_ring", "is_ring", defArgs s_is_ring, defBody s_is_ring, defScope s_is_ring, [], []⟩
def dd_row_of : He.DefD := ⟨("row_of", none), "row_of", "row_of", defArgs s_row_of, defBody s_row_of, defScope s_row_of, [], []⟩
def dd_Meal___init__ : He.DefD := ⟨("Meal", some "__init__"), "__init__", "Meal.__init__", defArgs s_Meal___init__, defBody s_Meal___init__, defScope s_Meal___init__, [.adr (He.dflAt ("Meal", some "__init__") 0), .adr (He.dflAt ("Meal", some "__init__") 1)], []⟩
def dd_Meal_dishes : He.DefD := ⟨("Meal", some "dishes"), "dishes", "Meal.dishes", defArgs s_Meal_dishes, defBody s_Meal_dishes, defScope s_Meal_dishes, [], []⟩
def dd_Meal_wishes : He.DefD := ⟨("Meal", some "wishes"), "wishes", "Meal.wishes", defArgs s_Meal_wishes, defBody s_Meal_wishes, defScope s_Meal_wishes, [], []⟩
def dd_Meal___len__ : He.DefD := ⟨("Meal", some "__len__"), "__len__", "Meal.__len__", defArgs s_Meal___len__, defBody s_Meal___len__, defScope s_Meal___len__, [], []⟩
def dd_Meal___iter__ : He.DefD := ⟨("Meal", some "__iter__"), "__iter__", "Meal.__iter__", defArgs s_Meal___iter__, defBody s_Meal___iter__, defScope s_Meal___iter__, [], []⟩
def dd_check_dishes : He.DefD := ⟨("check_dishes", none), "check_dishes", "check_dishes", defArgs s_check_dishes, defBody s_check_dishes, defScope s_check_dishes, [], []⟩
def dd_check_wishes : He.DefD := ⟨("check_wishes", none), "check_wishes", "check_wishes", defArgs s_check_wishes, defBody s_check_wishes, defScope s_check_wishes, [], []⟩
def dd_check_stations : He.DefD := ⟨("check_stations", none), "check_stations", "check_stations", defArgs s_check_stations, defBody s_check_stations, defScope s_check_stations, [], []⟩
def dd__law_fresh : He.DefD := ⟨("_law_fresh", none), "_law_fresh", "_law_fresh", defArgs s__law_fresh, defBody s__law_fresh, defScope s__law_fresh, [], []⟩
def dd__law_take : He.DefD := ⟨("_law_take", none), "_law_take", "_law_take", defArgs s__law_take, defBody s__law_take, defScope s__law_take, [], []⟩
def dd__law_one : He.DefD := ⟨("_law_one", none), "_law_one", "_law_one", defArgs s__law_one, defBody s__law_one, defScope s__law_one, [], []⟩
def dd__law_mix : He.DefD := ⟨("_law_mix", none), "_law_mix", "_law_mix", defArgs s__law_mix, defBody s__law_mix, defScope s__law_mix, [], []⟩
def dd__law_some : He.DefD := ⟨("_law_some", none), "_law_some", "_law_some", defArgs s__law_some, defBody s__law_some, defScope s__law_some, [], []⟩
def dd__law_same : He.DefD := ⟨("_law_same", none), "_law_same", "_law_same", defArgs s__law_same, defBody s__law_same, defScope s__law_same, [], []⟩
def dd__law_loose : He.DefD := ⟨("_law_loose", none), "_law_loose", "_law_loose", defArgs s__law_loose, defBody s__law_loose, defScope s__law_loose, [], []⟩
def dd__law_names : He.DefD := ⟨("_law_names", none), "_law_names", "_law_names", defArgs s__law_names, defBody s__law_names, defScope s__law_names, [], []⟩
def dd__law_dishes : He.DefD := ⟨("_law_dishes", none), "_law_dishes", "_law_dishes", defArgs s__law_dishes, defBody s__law_dishes, defScope s__law_dishes, [], []⟩
def dd__law_hung : He.DefD := ⟨("_law_hung", none), "_law_hung", "_law_hung", defArgs s__law_hung, defBody s__law_hung, defScope s__law_hung, [], []⟩
def dd__law_tried : He.DefD := ⟨("_law_tried", none), "_law_tried", "_law_tried", defArgs s__law_tried, defBody s__law_tried, defScope s__law_tried, [], []⟩
def dd_law : He.DefD := ⟨("law", none), "law", "law", defArgs s_law, defBody s_law, defScope s_law, [], []⟩
def fn0 : List He.DefD := [dd_is_integer, dd_is_list, dd_is_name, dd_is_dish, dd_is_index, dd_alike, dd_copied, dd_BadOrder___init__, dd_NoRow___init__, dd_is_bounds, dd_is_moment, dd_is_wish, dd_is_station, dd_as_moment, dd_as_wish, dd_check_same, dd_check_orders, dd_is_order, dd_way_up, dd_way_of, dd_dish_of, dd_spread, dd_most_longer, dd_Hanging___init__, dd_Hanging_rows, dd_Hanging___iter__, dd_check_rows, dd_is_hook, dd_check_rounds, dd_round_from]
def fn1 : List He.DefD := [dd_Book___init__, dd_check_entries, dd_is_entry, dd_is_wait, dd_check_waits, dd_sum_ahead, dd_raised, dd_ring_behind, dd_bounded, dd_wish_as_row, dd_order_as_wish, dd_found_row, dd_found_wish, dd_is_between, dd_goes_round, dd_all_rows, dd_earliest, dd_latest, dd_ring, dd_least_sums, dd_is_ring, dd_row_of, dd_Meal___init__, dd_Meal_dishes, dd_Meal_wishes, dd_Meal___len__, dd_Meal___iter__, dd_check_dishes, dd_check_wishes, dd_check_stations]
def fn2 : List He.DefD := [dd__law_fresh, dd__law_take, dd__law_one, dd__law_mix, dd__law_some, dd__law_same, dd__law_loose, dd__law_names, dd__law_dishes, dd__law_hung, dd__law_tried, dd_law]
def fnL : List He.DefD := fn0 ++ fn1 ++ fn2
def fa0 : List He.Fa := [.glo "is_integer", .glo "is_list", .glo "is_name", .glo "is_dish", .glo "is_index", .glo "alike", .glo "copied", .glo "is_bounds", .glo "is_moment", .glo "is_wish", .glo "is_station", .glo "as_moment", .glo "as_wish", .glo "check_same", .glo "check_orders", .glo "is_order", .glo "way_up", .glo "way_of", .glo "dish_of", .glo "spread", .glo "most_longer", .glo "check_rows", .glo "is_hook", .glo "check_rounds", .glo "round_from", .glo "check_entries", .glo "is_entry", .glo "is_wait", .glo "check_waits", .glo "sum_ahead"]
def fa1 : List He.Fa := [.glo "raised", .glo "ring_behind", .glo "bounded", .glo "wish_as_row", .glo "order_as_wish", .glo "found_row", .glo "found_wish", .glo "is_between", .glo "goes_round", .glo "all_rows", .glo "earliest", .glo "latest", .glo "ring", .glo "least_sums", .glo "is_ring", .glo "row_of", .glo "check_dishes", .glo "check_wishes", .glo "check_stations", .glo "_law_fresh", .glo "_law_take", .glo "_law_one", .glo "_law_mix", .glo "_law_some", .glo "_law_same", .glo "_law_loose", .glo "_law_names", .glo "_law_dishes", .glo "_law_hung", .glo "_law_tried"]
def fa2 : List He.Fa := [.glo "law", .glo "BadOrder", .glo "NoRow", .glo "Hanging", .glo "Book", .glo "Meal", .str "CLOCK" "clock", .str "LETTERS" "abcdefghijklmnopqrstuvwxyz", .int "LONGEST_NAME" 8, .free "len", .free "abs", .free "int", .free "list", .free "tuple", .free "bool", .free "str", .free "dict", .free "isinstance", .free "all", .free "any", .free "zip", .free "enumerate", .free "range", .free "sorted", .free "sum", .free "set", .free "iter", .cls "Hanging", .cls "Book", .cls "Meal"]
def fa3 : List He.Fa := [.glo "EDGES", .meth "BadOrder" "__init__", .meth "NoRow" "__init__", .meth "Meal" "dishes", .meth "Hanging" "__iter__", .meth "Meal" "__iter__", .meth "Meal" "__len__", .meth "Hanging" "rows", .meth "Meal" "wishes", .mkr "Book", .mkr "Hanging", .mkr "Meal", .noat "Meal" "bounds", .noat "Book" "hooks", .noat "Book" "waits", .noat "BadOrder" "index", .noat "Hanging" "hooks", .noat "Hanging" "__length_hint__", .noat "Hanging" "__len__", .noat "NoRow" "row", .noat "Meal" "places", .noat "Meal" "wished"]
def faL : List He.Fa := fa0 ++ fa1 ++ fa2 ++ fa3
def ex0 (K : PySem.W.Frag) : List Bool := [tupA K (He.dflAt ("Meal", some "__init__") 1 K) [], tupA K (He.dflAt ("Meal", some "__init__") 0 K) [], decide (PySem.W.exmOne K (.ref (He.ga K "BadOrder")) (.ref (He.ga K "BadOrder")) = some true), decide (PySem.W.exmOne K (.ref (He.ga K "NoRow")) (.ref (He.ga K "BadOrder")) = some false), decide (PySem.W.exmOne K (.ref (He.ga K "NoRow")) (.ref (He.ga K "NoRow")) = some true), staB K "Book" "of" dd_Book_of, decide (PySem.W.typeIn K (.ref (He.ma K (He.ga K "BadOrder") "__init__")) = some (.type "function")), decide (PySem.W.typeIn K (.ref (He.ma K (He.ga K "NoRow") "__init__")) = some (.type "function")), He.tupB K "EDGES" [.str "start", .str "done"], PySem.W.excInitIn K (He.ga K "BadOrder") He.veBase "ValueError.__new__"]
def ex1 (K : PySem.W.Frag) : List Bool := [mroB K (He.ga K "BadOrder"), decide (PySem.W.findIn K (.ref (He.ga K "BadOrder")) "__setattr__" = some (some (.builtin "object.__setattr__"))), decide (PySem.W.subIn K (.ref (He.ga K "BadOrder")) (.type "BaseException") = some true), decide (PySem.W.typeIn K (.ref (He.ga K "BadOrder")) = some (.type "type")), PySem.W.keepIn K (.ref (He.ga K "BadOrder")), PySem.W.excInitIn K (He.ga K "NoRow") He.veBase "ValueError.__new__", mroB K (He.ga K "NoRow"), decide (PySem.W.findIn K (.ref (He.ga K "NoRow")) "__setattr__" = some (some (.builtin "object.__setattr__"))), decide (PySem.W.subIn K (.ref (He.ga K "NoRow")) (.type "BaseException") = some true), decide (PySem.W.typeIn K (.ref (He.ga K "NoRow")) = some (.type "type"))]
def ex2 (K : PySem.W.Frag) : List Bool := [PySem.W.keepIn K (.ref (He.ga K "NoRow")), L2.xfB K (He.ga K "BadOrder"), decide (He.codeOf K ("law", none) = 960), PySem.W.codeHdIn K 960 958]
def exL (K : PySem.W.Frag) : List Bool := ex0 K ++ ex1 K ++ ex2 K
def exB (K : PySem.W.Frag) : Bool := (exL K).all id
def stL (K : PySem.W.Frag) : List Addr := [(stA K "Book" "of")]
def stV : List He.FnW := [dd_Book_of.val]
abbrev RR : PySem.W.OpenRow := PySem.W.OpenLaw.row PySem.Challenge.rw_cookcalls_k23_orders_refused
def asL : List Addr := [2, 3, 28, 35, 40, 47, 54, 59, 64, 74, 308, 327, 330, 337, 344, 351, 356, 363, 370, 384, 391, 398, 405, 412, 419, 426, 431, 488, 499, 504, 511, 518, 606, 617, 624, 631, 638, 659, 666, 673, 680, 687, 694, 701, 708, 713, 718, 723, 732, 739, 746, 751, 758, 765, 860, 871, 878, 885, 892, 899, 906, 913, 918, 923, 928, 935, 942, 949, 956, 961, 27, 34, 39, 46, 53, 58, 63, 73, 307, 326, 336, 343, 350, 355, 362, 369, 383, 390, 397, 404, 411, 418, 425, 430, 487, 498, 503, 510, 517, 605, 616, 623, 630, 637, 658, 665, 672, 679, 686, 693, 700, 707, 712, 717, 722, 731, 725, 738, 734, 745, 741, 750, 757, 764, 859, 870, 877, 884, 891, 898, 905, 912, 917, 922, 927, 934, 941, 948, 955, 960, 305, 324, 443, 450, 478, 530, 537, 780, 787, 794, 829, 843, 304, 323, 442, 449, 477, 529, 535, 779, 775, 786, 793, 828, 842, 534, 773, 774]
abbrev AlY : Type := He.AlD × (Bool × List He.FnW)
def tbL : List (Addr × Addr) := [(960, 958)]
def tabY (g : Addr → Option Obj) : Bool := tbL.all fun p => match g p.2 with | some x => He.emptyTab x | none => false
def outY (K : PySem.W.Frag) : Bool := tbL.all fun p => PySem.W.codeHdIn K p.1 p.2 && (K.lookup p.2).isNone
def obsY (g : Addr → Option Obj) : AlY := (fun K : PySem.W.Frag => (He.obsD faL fnL K, (exB K && outY K) && tabY g, (stL K).map (fnWa K))) (He.frG g asL)
structure SayY (h : Heap) (K : PySem.W.Frag) : Prop where
  d : He.SaysD faL fnL K
  e : exB K = true
  o : outY K = true
  t : ∀ p ∈ tbL, h.get? p.2 = some { cls := .none, data := .fields #[] }
  s : (stL K).map (fnWa K) = stV
theorem sayY {h : Heap} (e : obsY h.get? = (He.valD fnL, (true, stV))) : SayY h (He.frG h.get? asL) := by
  have e1 : He.obsD faL fnL (He.frG h.get? asL) = He.valD fnL := congrArg (fun z : AlY => z.1) e
  have e2 : ((exB (He.frG h.get? asL) && outY (He.frG h.get? asL)) && tabY h.get?) = true := congrArg (fun z : AlY => z.2.1) e
  obtain ⟨a1, a2⟩ := He.ba e2
  obtain ⟨b1, b2⟩ := He.ba a1
  refine ⟨e1, b1, b2, fun p hp => ?_, congrArg (fun z : AlY => z.2.2) e⟩
  have q := List.all_eq_true.mp a2 p hp
  cases z : h.get? p.2 with
  | none => rw [z] at q; cases q
  | some x => rw [z] at q; rw [He.emptyTab_eq q]
def hkX : PySem.W.Hook where
  α := AlY
  obs := fun s => obsY s.heap.get?
  val := fun _ => (He.valD fnL, (true, stV))
  says := fun _ h => ∃ K : PySem.W.Frag, K.In h ∧ SayY h K
  of := fun _ _ e => ⟨_, He.frG_in, sayY e⟩
  keeps := fun _ _ _ ⟨K, hK, c⟩ k => ⟨K, PySem.W.Frag.In.keeps hK k, ⟨c.d, c.e, c.o, fun p hp => k _ _ (c.t p hp), c.s⟩⟩
def obX (s : PySem.W.SharedT) : AlY := obsY (HandSHeadRun.getT s)
theorem obX_eq (s : PySem.W.SharedT) : obX s = hkX.obs s.abs := by
  have e : HandSHeadRun.getT s = s.abs.heap.get? := funext (HandSHeadRun.getT_eq s)
  show obsY (HandSHeadRun.getT s) = obsY s.abs.heap.get?
  rw [e]
def nm0 : List Str := ["_wall", "CLOCK", "LETTERS", "LONGEST_NAME", "is_integer", "is_list", "is_name", "is_dish", "is_index", "alike", "copied", "KitchenError", "BadDish", "BadWish", "BadStation", "NoWish", "NoDish", "Clash", "BadRow", "Round", "TooEarly", "BadTimes", "UnlikeHangings", "Unlike", "BadOrder", "NoRow", "EDGES", "is_bounds", "is_moment", "is_wish"]
def nm1 : List Str := ["is_station", "as_moment", "as_wish", "check_dish", "check_same", "check_orders", "is_order", "way_up", "way_of", "dish_of", "spread", "most_longer", "Hanging", "check_rows", "is_hook", "check_rounds", "round_from", "Book", "check_entries", "is_entry", "is_wait", "check_waits", "check_times", "check_hangings", "sum_ahead", "raised", "ring_behind", "bounded", "wish_as_row", "order_as_wish"]
def nm2 : List Str := ["found_row", "found_wish", "is_between", "goes_round", "all_rows", "earliest", "latest", "ring", "least_sums", "is_ring", "row_of", "Meal", "check_dishes", "check_wishes", "check_stations", "_law_fresh", "_law_take", "_law_one", "_law_mix", "_law_some", "_law_same", "_law_loose", "_law_names", "_law_dishes", "_law_hung", "_law_tried"]
def nmL : List Str := nm0 ++ nm1 ++ nm2
theorem runX (w : World) : HandSHeadRun.RunEq RR (PySem.W.view RR.prog [98]) hkX obX 20000 nmL w := by
  intro os
  kernel_rfl
end K5
set_option Elab.async false
set_option linter.all false
set_option maxRecDepth 100000
set_option maxHeartbeats 2000000
namespace EnT
open PySem PySem.Spec PyProof.Rows L2
/-! enumerate over a tuple, as a walk of the hand layer -/
theorem newOver {u : Value} {cell : Obj} {G : Heap → Prop} (B : Begins u cell G) :
    Meets (Builtin.«enumerate.__new__» ⟨[.type "enumerate", u], []⟩) (fun _ R z => G z.heap ∧
      R (.ok (.ret (.ref (z.heap.push cell).objs.size)))
        { z with heap := (z.heap.push cell).push { cls := .type "enumerate", data := .fields #[.none, .bool false, .ref z.heap.objs.size, rawInt 0, .none, .none] } }) :=
  .of_wp fun P w A R z hz => by
    obtain ⟨g0, gs, dr, tk, os⟩ := z; obtain ⟨hG, hR⟩ := hz
    have below := sub_enumerate
    have step : ∀ {A' : Around} {E : Value → Shared → Prop} {Q : Value → Shared → Prop}, Q (.ref g0.objs.size) ⟨g0.push cell, gs, dr, tk, os⟩ → wpAny (model P w) A' (pyIter u) Q E ⟨g0, gs, dr, tk, os⟩ :=
      fun z => B.iter P w _ _ ⟨g0, gs, dr, tk, os⟩ _ hG z
    wp_walk using step
    refine wpAny_stack_any fun _ => wpAny_pure ?_
    split
    · rename_i c _ _ _ _ _
      cases (c == Value.type "enumerate") <;> (wp_walk using step; exact ⟨_, rfl, hR⟩)
    · wp_walk using step
      exact ⟨_, rfl, hR⟩
theorem made {P : Program} {w : World} {A : Around} {E : Value → Shared → Prop} {z : Shared} {u : Value} {cell : Obj} {G : Heap → Prop} {Q : Value → Shared → Prop} (B : Begins u cell G) (hG : G z.heap)
    (k : ∀ g, IsEnum g (z.heap.objs.size + 1) z.heap.objs.size 0 .none → g.get? z.heap.objs.size = some cell → (∀ b o, z.heap.get? b = some o → g.get? b = some o) → Q (.ref (z.heap.objs.size + 1)) { z with heap := g }) :
    wpAny (model P w) A (call (.type "enumerate") [u]) Q E z := by
  refine callType_new F.called_enumerate (by decide) (F.typeCall_enumerate_1 _) (F.newCall_enumerate_1 _) (fun o => F.args_object_init_2 o _) F.entry_enumerate_new (newOver B) ⟨hG, ?_⟩
  have size : (z.heap.push cell).objs.size = z.heap.objs.size + 1 := Heap.size_push ..
  show _ ∧ _
  rw [size]
  generalize hg : (z.heap.push cell).push { cls := .type "enumerate", data := .fields #[.none, .bool false, .ref z.heap.objs.size, rawInt 0, .none, .none] } = g
  have top : IsEnum g (z.heap.objs.size + 1) z.heap.objs.size 0 .none := by
    rw [← hg, ← size]
    exact Heap.get?_push_size _ rfl
  refine ⟨⟨_, top, rfl⟩, k g top ?_ fun b o e => ?_⟩
  · rw [← hg]
    exact Heap.get?_push_of_some _ (Heap.get?_push_size _ B.free)
  · rw [← hg]
    exact Heap.get?_push_of_some _ (Heap.get?_push_of_some _ e)
/-- the tuple at a as it stands at each turn, each item in a new pair -/
def Iet (K : PySem.W.Frag) (a : Addr) : It where
  go i H := ∃ (ys : List V) (y : V), SqT K H a ys ∧ ys[i]? = some y
  yld i H v H' := ∃ T y, v = .ref T ∧ H T = none ∧ H' = upd H T (.tup [.int (i : Nat), y]) ∧ ∀ ys, SqT K H a ys → ys[i]? = some y
  stop i H := ∃ ys : List V, SqT K H a ys ∧ ys.length = i
theorem turns {P : Program} {w : World} {K : PySem.W.Frag} {elts : List Expr} {kk : Nat} {tpos : Pos} (a e j : Addr) :
    Turn P w K (.Tuple elts kk tpos) (Iet K a) [e, j] e (fun i g => (∃ old, IsEnum g e j ((i : Nat) : Int) old) ∧ g.IsTupleIter j a i ∧ e ≠ j) where
  mem := by simp
  obj := fun i g st b hb => by
    obtain ⟨⟨old, he⟩, ⟨o, ho, _, hd⟩, _⟩ := st
    have two : b = e ∨ b = j := by simpa using hb
    rcases two with q | q <;> subst q
    · exact ⟨_, he, fun v z => nomatch z⟩
    · exact ⟨o, ho, fun v z => by rw [hd] at z; cases z⟩
  keep := fun i g g' st k => by
    obtain ⟨⟨old, he⟩, hj, hne⟩ := st
    exact ⟨⟨old, k e (by simp) _ he⟩, hj.at fun o q => k j (by simp) o q, hne⟩
  item := by
    intro X hP hw hK hc i pins s σ H E I hf st hg
    subst hP hw hK
    obtain ⟨⟨old, he⟩, hj, hne⟩ := st
    obtain ⟨ys, y, hq, hy⟩ := hg
    obtain ⟨its, rv, p, _⟩ := I.tuple hq
    obtain ⟨u, hu, ru⟩ := rv.get hy
    have ht : s.heap.IsTuple a its.toArray := p
    have haj : a ≠ j := fun z => by
      obtain ⟨o1, e1, c1, _⟩ := hj
      obtain ⟨o2, e2, c2, _⟩ := ht
      rw [z, e1] at e2
      cases e2
      rw [c1] at c2
      exact absurd (Value.type.inj c2) (by decide)
    have hae : e ≠ a := fun z => by
      obtain ⟨o2, e2, c2, _⟩ := ht
      rw [← z, he] at e2
      cases e2
      exact absurd (Value.type.inj c2) (by decide)
    have lt : i < its.toArray.size := by
      have := rv.length
      have h1 := (List.getElem?_eq_some_iff.mp hy).1
      rw [List.size_toArray]
      omega
    have hel : e < s.heap.objs.size := Heap.lt_size he
    have hjl : j < s.heap.objs.size := by obtain ⟨_, q, _⟩ := hj; exact Heap.lt_size q
    refine wpAny_pyNext_enum_itemD (Draws.tuple (show X.A.in1.handled = none from I.ok.hd hc) j a haj its.toArray) he ⟨hj, ht⟩ lt hne (by simp [hne, hae]) fun x g tk hx ho hs hT hsz hk => ?_
    refine ⟨_, rfl, wpAny_letOwnedTupleGo_enum (s := { s with heap := g, toks := tk + 1 }) ho fun g' he' sb => ?_⟩
    have eu : x = u := by
      have h1 : its.toArray[i]? = some x := hx
      have h2 : its.toArray[i]? = some u := by simpa using hu
      rw [h1] at h2
      exact Option.some.inj h2
    subst eu
    have hT' : g'.get? s.heap.objs.size = some { cls := .type "tuple", data := .seq #[.int i tk, x] } := (sb.2 _ (Nat.ne_of_gt hel)).trans hT
    have fresh : ObjOk X.prog X.w (upd H s.heap.objs.size (.tup [.int (i : Nat), y])) g' s.heap.objs.size (.tup [.int (i : Nat), y]) :=
      ⟨by show 2 ≤ sizeLine; decide, [.int i tk, x], .cons ⟨_, rfl⟩ (.cons ru .nil), ⟨_, hT', rfl, _, rfl⟩⟩
    have I1 : Inv X pins σ (upd H s.heap.objs.size (.tup [.int (i : Nat), y])) { s with heap := g', toks := tk + 1 } :=
      I.turnedNew (ch := [e, j]) (fun b o hb q => (sb.2 b (fun z => hb (by simp [z]))).trans (hk b o (fun z => hb (by simp [z])) (fun z => hb (by simp [z])) q)) hf (Nat.le_refl _) fresh
    refine ⟨.ref s.heap.objs.size, _, I1, rfl, ⟨_, y, rfl, I.hok.fresh (Nat.le_refl _), rfl, fun zs hz => by rw [I.tuple_inj hz hq]; exact hy⟩, ⟨⟨x, ?_⟩, hs.1.at fun o q => (sb.2 j (Ne.symm hne)).trans q, hne⟩, fun b hb => ?_⟩
    · have e1 : ((i + 1 : Nat) : Int) = (i : Int) + 1 := by omega
      rw [e1]; exact he'
    · have old2 : b < s.heap.objs.size := by
        have two : b = e ∨ b = j := by simpa using hb
        rcases two with q | q <;> (rw [q]; assumption)
      rw [upd_ne (Nat.ne_of_lt old2)]
      exact (hf b hb).1
  done := by
    intro X hP hw hK hc i pins s σ H E I hf st hg
    subst hP hw hK
    obtain ⟨⟨old, he⟩, hj, hne⟩ := st
    obtain ⟨ys, hq, hy⟩ := hg
    obtain ⟨its, rv, p, _⟩ := I.tuple hq
    obtain ⟨f0, f1, f2, f3, f4, f5⟩ := hf j (by simp)
    have ht : s.heap.IsTuple a its.toArray := p
    have haj : a ≠ j := fun z => by
      obtain ⟨o1, e1, c1, _⟩ := hj
      obtain ⟨o2, e2, c2, _⟩ := ht
      rw [z, e1] at e2
      cases e2
      rw [c1] at c2
      exact absurd (Value.type.inj c2) (by decide)
    have sz : its.toArray.size = i := by
      have := rv.length
      rw [List.size_toArray]
      omega
    have D := Draws.tuple (prog := X.prog) (w := X.w) (show X.A.in1.handled = none from I.ok.hd hc) j a haj its.toArray
    rw [sz] at D
    exact wpAny_pyNext_enum_endD D he ⟨hj, ht⟩ fun g eb => ⟨rfl, I.turned (t' := s.toks) (fun b o hb q => eb b o hb q) f0 f1 f3 f4 f5⟩
  self := fun A i s Q E st k => by
    obtain ⟨⟨_, he⟩, _⟩ := st
    exact wpAny_pyIter_enum he k
def iEnumT (K : PySem.W.Frag) (ta : TA) : TI := fun σ H R => ta σ H fun vs H1 => ∃ a ys, vs = [V.ref a] ∧ SqT K H1 a ys ∧ R (Iet K a) H1
theorem pi_enumT {X : Cx} {e : Expr} {ta : TA} {p pos tpos : Pos} {elts : List Expr} {kk : Nat} (gl : Gl X "enumerate") (free : X.mg "enumerate" = none) (ha : PA X [e] ta) (hs : starEach [e] X.env = [(false, eval e X.env)] := by rfl) :
    PI X (.Tuple elts kk tpos) (.Call (.Name "enumerate" p) [e] [] pos) (iEnumT X.K ta) := by
  refine ⟨fun pins s σ H R I h => ?_⟩
  refine Call_ (ld_blt I gl free boot_enumerate (PyProof.Rows.callWith_type1 (thn (ha.run pos pins s σ H _ I h) fun us s1 ⟨vs, H1, I1, r1, q1⟩ => ?_) hs rfl))
  obtain ⟨a, ys, ex, hq, q⟩ := q1
  subst ex
  cases r1 with
  | cons r rr =>
    cases rr
    cases r
    obtain ⟨its, rv, p', _⟩ := I1.tuple hq
    have ht : s1.heap.IsTuple a its.toArray := p'
    refine made (begins_tuple a its.toArray) ht fun g he hj hk => wpAny_pyIter_enum he ?_
    have I2 : Inv X pins σ H1 { s1 with heap := g } := I1.kept (t' := s1.toks) hk
    refine ⟨s1.heap.objs.size + 1, [s1.heap.objs.size + 1, s1.heap.objs.size], _, _, H1, rfl, I2, turns a (s1.heap.objs.size + 1) s1.heap.objs.size, ⟨⟨.none, he⟩, ⟨_, hj, rfl, rfl⟩, Nat.succ_ne_self _⟩, fun b hb => ?_, q⟩
    have hle : s1.heap.objs.size ≤ b := by
      have two : b = s1.heap.objs.size + 1 ∨ b = s1.heap.objs.size := by simpa using hb
      rcases two with z | z <;> rw [z]
      · exact Nat.le_add_right _ _
      · exact Nat.le_refl _
    exact I1.fpOk hle (I1.hok.fresh hle)
/-- one of two walks -/
theorem pi_or {X : Cx} {tg e : Expr} {t u : TI} (h : PI X tg e t) (k : PI X tg e u) : PI X tg e (fun σ H R => t σ H R ∨ u σ H R) :=
  ⟨fun pins s σ H R I q => q.elim (h.run pins s σ H R I) (k.run pins s σ H R I)⟩
theorem walk_enumT {K : PySem.W.Frag} {a : Addr} {xs : List V} : Walk (Iet K a) xs.length (fun H => SqT K H a xs) (YPair (fun i => some (.int (i : Nat))) (fun i => xs[i]?)) :=
  ⟨fun _ _ hi q => ⟨xs, _, q, List.getElem?_eq_getElem hi⟩, fun _ q => ⟨xs, q, rfl⟩, fun i H v H' _ q y => by
    obtain ⟨T, x, h1, h2, h3, h4⟩ := y
    exact ⟨T, _, x, h1, h2, h3, rfl, h4 xs q⟩⟩
end EnT
set_option Elab.async false
set_option linter.all false
set_option maxRecDepth 100000
set_option maxHeartbeats 2000000
/-! == and != of an instance whose class has an == of its own: any answer, any other thing -/
namespace Own
open PySem PySem.Spec PyProof.Rows L2
theorem tyIs_keeps {s s' : Shared} {u : Value} {T : String} (k : ∀ b o, s.heap.get? b = some o → s'.heap.get? b = some o) (h : s.TypeIs u T) : s'.TypeIs u T := by
  cases u <;> first | exact h | (obtain ⟨o, h1, h2⟩ := h; exact ⟨o, k _ _ h1, h2⟩)
theorem looks_ty {M : Model} {s : Shared} {u : Value} {T : String} (h : s.TypeIs u T) : PySem.W.Looks M s.heap (typeOf u) (.type T) := fun A Q E s' k q => wpAny_typeOf (tyIs_keeps k h) q
/-- what stands on the other side -/
inductive Oth (K : PySem.W.Frag) (H : Hp) (C : Addr) : V → Prop
  | ty {y : V} {T : String} (h : TyB K H y T) (n : PySem.W.notFirst K C (.type T) = true) : Oth K H C y
  | ins {b D dy : Addr} {gs : List (Str × V)} (h : H b = some (.ins D dy gs)) (n : PySem.W.notFirst K C (.ref D) = true) : Oth K H C (.ref b)
theorem Oth.looks {X : Cx} {pins : List (Addr × Obj)} {σ : L2.St} {H : Hp} {s : Shared} {C : Addr} {y : V} {v : Value} (I : L2.Inv X pins σ H s) (ry : L2.RelV y v) (o : Oth X.K H C y) :
    ∃ tb, PySem.W.Looks (model X.prog X.w) s.heap (typeOf v) tb ∧ PySem.W.notFirst X.K C tb = true := by
  cases o with
  | ty h n => exact ⟨_, looks_ty (h.is I ry), n⟩
  | ins h n =>
    cases (show v = Value.ref _ from ry)
    obtain ⟨mB, J, _⟩ := ins_get I.hok h
    obtain ⟨od, J, _⟩ := J.look
    exact ⟨_, J.type, n⟩
theorem non_declines {prog : Program} {w : World} {A : Around} {E : Value → Shared → Prop} {s : Shared} (x : Addr) : wpAny (model prog w) A (tryCompare .none "__eq__" (.ref x)) (fun r s' => r = none ∧ s' = s) E s :=
  wpAny_tryCompare_declines (show s.TypeIs .none "NoneType" from rfl) F.slot_NoneType_eq_refl (call_gives F.slot_NoneType_eq_refl rfl F.entry_NoneType_eq (F.args_NoneType_eq_2 _ _) (PySem.SeqAt.NoneType___eq___none_ref_0 x) ⟨rfl, rfl, rfl⟩)
theorem dict_declines {prog : Program} {w : World} {A : Around} {E : Value → Shared → Prop} {s : Shared} {K : PySem.W.Frag} {d x C : Addr} {ox : Obj} {od : Option Obj} (hT : s.TypeIs (.ref d) "dict") (X : K.In s.heap) (I : PySem.W.InstAt s.heap x ox C od) (hsub : PySem.W.subIn K (.ref C) (.type "dict") = some false) :
    wpAny (model prog w) A (tryCompare (.ref d) "__eq__" (.ref x)) (fun r s' => r = none ∧ s' = s) E s := by
  refine wpAny_tryCompare_declines hT PySem.F.slot_dict_eq_refl (wpAny_call (codeAny_call_builtin PySem.F.slot_dict_eq_refl.plain PySem.F.entry_dict_eq (PySem.F.slot_dict_eq_refl.check _ _ _ _ _ _ _ _ hT (PySem.F.args_dict_eq_2 _ _) ?_)))
  show wpAny _ _ (Builtin.Dict.dictSlotArgs "__eq__" ⟨[.ref d, .ref x], []⟩ >>= _) _ _ s
  refine wpAny_bind ?_
  unfold Builtin.Dict.dictSlotArgs
  refine wpAny_bind (wpAny_notOrdered_dict hT ?_)
  show wpAny _ _ (pure (Value.ref d, Value.ref x)) _ _ s
  refine wpAny_pure ?_
  unfold isInstance
  refine wpAny_bind (wpAny_bind (I.type.here ((PySem.W.looks_subIn X hsub).here ?_)))
  simp only [Bool.not_false, if_true]
  refine wpAny_bind (wpAny_rule (wpAny_bind (wpAny_pure (wpAny_pure ?_))))
  first
    | exact ⟨trivial, rfl, rfl⟩
    | exact ⟨trivial, trivial, rfl⟩
    | exact ⟨trivial, rfl⟩
    | simp
section
variable {X : Cx} {CX : CXT} {C f : Addr} {fd : FuncData} {ps : List Str} {n : Nat} {sp : Sp} {E : XK}
theorem own_call (F : FnOk X.prog X.w X.K X.mg X.base CX n f fd ps sp) (hb : L2.Binds X.K fd ps []) (hx : Passes CX X E) {A : Around} (hr : Room n A) (hfr : A.frames = X.A.frames)
    {pins : List (Addr × Obj)} {s : Shared} {σ : L2.St} {H : Hp} {x y : V} {u v : Value} {R : V → Hp → Prop} (I : L2.Inv X pins σ H s) (rx : L2.RelV x u) (ry : L2.RelV y v) (hsp : sp [x, y] H R E) :
    wpAny (model X.prog X.w) A (call (.ref f) [u, v]) (fun w s' => ∃ z H', L2.RelV z w ∧ L2.Inv X pins σ H' s' ∧ R z H') X.xe s := by
  have e0 : Env0 X.prog X.w X.K X.mg X.base A X.stack s H := by
    have e := I.env0
    exact ⟨by rw [hfr]; exact e.frames, e.mod, e.bs, e.bsz, e.funs, e.frf, e.hok, e.bare⟩
  have hl := F.len _ _ _ _ hsp
  have r2 : L2.Vals [x, y] [u, v] := .cons rx (.cons ry .nil)
  refine wpAny_call (codeAny_mono (F.run A X.stack s H ⟨[u, v], []⟩ [u, v] [x, y] R E hr e0 (by
    have := hb s [u, v] I.kIn (by simpa using hl)
    simpa using this) r2 hsp) fun r s' hq => ?_)
  cases r with
  | error e => exact hx pins σ H s e s' I hq
  | ok fl =>
    cases fl with
    | ret w =>
      obtain ⟨z, H', I', rz, q⟩ := I.after hq
      exact ⟨z, H', rz, I', q⟩
    | next => exact False.elim hq
    | brk => exact False.elim hq
    | cont => exact False.elim hq
/-- the reading of x == y: the own def tells a truth -/
def rOwn (K : PySem.W.Frag) (C : Addr) (sp : Sp) (E : XK) (neg : Bool) : R2 := fun x y H Q => ∃ a dx fs, x = .ref a ∧ H a = some (.ins C dx fs) ∧ Oth K H C y ∧ sp [x, y] H (fun v H' => ∃ b : Bool, v = .bl b ∧ Q (.bl (if neg then !b else b)) H') E
theorem op_eqOwn (F : FnOk X.prog X.w X.K X.mg X.base CX n f fd ps sp) (hs : PySem.W.findIn X.K (.ref C) "__eq__" = some (some (.ref f))) (hf : PySem.W.isFn X.K (.ref f) = true) (hb : L2.Binds X.K fd ps []) (hx : Passes CX X E) (hr : Room n X.A) :
    OpR X (compareOp .Eq) (rOwn X.K C sp E false) := by
  intro pins s σ H x y u v Q I rx ry ⟨a, dx, fs, ex, ha, ho, hsp⟩
  subst ex
  cases (show u = Value.ref a from rx)
  obtain ⟨mA, J, _⟩ := ins_get I.hok ha
  obtain ⟨od, J, _⟩ := J.look
  obtain ⟨m, hF⟩ := I.fr
  obtain ⟨tb, L, hn⟩ := ho.looks I ry
  show wpAny (model X.prog X.w) X.A (richCompare .Eq (.ref a) v) (EP X pins σ Q) X.xe s
  refine PySem.W.cmp_K (op := .Eq) (tb := tb) hr.units0 hF I.ok.mod.kin J L hn hs hf ?_
  refine wpAny_mono (own_call F hb hx hr rfl I (x := .ref a) rfl ry hsp) (fun w s' h => ?_) fun _ _ h => h
  obtain ⟨z, H', rz, I', b, ez, q⟩ := h
  subst ez
  cases (show w = Value.bool b from rz)
  exact ⟨.bl b, H', I', rfl, q⟩
set_option maxHeartbeats 200000 in
theorem entry_ne {prog : Program} {w : World} {A : Around} {E : Value → Shared → Prop} {s : Shared} {K : PySem.W.Frag} {x C f : Addr} {ox : Obj} {od : Option Obj} {b : Value} {Q : Fin → Shared → Prop} (hu : A.units < cLine) (X : K.In s.heap) (I : PySem.W.InstAt s.heap x ox C od)
    (hs : PySem.W.findIn K (.ref C) "__eq__" = some (some (.ref f))) (hf : PySem.W.isFn K (.ref f) = true) (h : wpAny (model prog w) A (call (.ref f) [.ref x, b]) (fun r s' => ∃ c, r = .bool c ∧ Q (.done (.ret (.bool (!c)))) s') E s) :
    wpAny (model prog w) A (Builtin.«object.__ne__» ⟨[.ref x, b], []⟩) Q E s := by
  unfold Builtin.«object.__ne__»
  refine wpAny_bind (wpAny_pure ?_)
  refine wpAny_bind (wpAny_cRoomFor hu ?_)
  refine wpAny_bind (PySem.W.ifBound_K X I hs hf (wpAny_mono h (fun r s' hr => ?_) fun _ _ e => e))
  obtain ⟨c, rfl, q⟩ := hr
  refine wpAny_bind (wpAny_truthy_bool ?_)
  exact wpAny_pure q
theorem ifBound_objNe {M : Model} {A : Around} {E : Value → Shared → Prop} {s : Shared} {K : PySem.W.Frag} {x C : Addr} {ox : Obj} {od : Option Obj} {args : List Value} {Q : Option Value → Shared → Prop} (X : K.In s.heap) (I : PySem.W.InstAt s.heap x ox C od) (hs : PySem.W.findIn K (.ref C) "__ne__" = some (some (.builtin "object.__ne__")))
    (h : wpAny M A (call (.builtin "object.__ne__") (.ref x :: args)) (fun v => Q (some v)) E s) : wpAny M A (callSpecialIfBound? (.ref x) "__ne__" args) Q E s := by
  simp only [callSpecialIfBound?, bindSpecialIfBound?]
  refine wpAny_holding (wpAny_bind (wpAny_bind (wpAny_bind (I.type.here ((PySem.W.looks_findIn X hs).here ?_)))))
  refine wpAny_bind (wpAny_askSetting (wpAny_ite ?_))
  have fin : wpAny M A (call (.builtin "object.__ne__") ([.ref x] ++ args) >>= fun v => pure (some v)) Q E s := wpAny_bind (wpAny_mono h (fun v s' h' => wpAny_pure h') fun _ _ h' => h')
  split
  · exact wpAny_bind (wpAny_of_eq (F.cmp_object.ne.bind _) (wpAny_pure (by exact fin)))
  · exact wpAny_tryCatch (wpAny_bind (wpAny_of_eq (F.cmp_object.ne.bind _) (wpAny_pure (by exact fin))))
theorem rc_ne {prog : Program} {w : World} {A : Around} {E : Value → Shared → Prop} {s : Shared} {K : PySem.W.Frag} {x C f : Addr} {ox : Obj} {od : Option Obj} {b tb : Value} {Q : Value → Shared → Prop} (hu : A.units + 1 < cLine) (X : K.In s.heap) (I : PySem.W.InstAt s.heap x ox C od)
    (hb : PySem.W.Looks (model prog w) s.heap (typeOf b) tb) (hn : PySem.W.notFirst K C tb = true) (hm : PySem.W.mroIn K C (.type "object") = some true) (hne : PySem.W.findIn K (.ref C) "__ne__" = some (some (.builtin "object.__ne__")))
    (hs : PySem.W.findIn K (.ref C) "__eq__" = some (some (.ref f))) (hf : PySem.W.isFn K (.ref f) = true) (h : wpAny (model prog w) A.in1 (call (.ref f) [.ref x, b]) (fun r s' => ∃ c, r = .bool c ∧ Q (.bool (!c)) s') E s) :
    wpAny (model prog w) A (richCompare .NotEq (.ref x) b) Q E s := by
  have one : wpAny (model prog w) A (tryCompare (.ref x) "__ne__" b) (fun r s' => ∃ v, r = some v ∧ Q v s') E s := by
    unfold tryCompare
    refine wpAny_bind (ifBound_objNe X I hne (wpAny_call (codeAny_call_builtin F.cmp_object.ne.plain F.cmpEntry_ne (PySem.W.check_slot F.cmpKind_ne F.cmpSplit_ne (I.type.andThen (PySem.W.looks_mroIn X hm)) (F.cmpArgs_ne _ _)
      (entry_ne (by show A.units + 1 < cLine; exact hu) X I hs hf (wpAny_mono h (fun r s' hr => ?_) fun _ _ e => e))))))
    obtain ⟨c, rfl, q⟩ := hr
    exact ⟨c, rfl, wpAny_pure ⟨_, rfl, q⟩⟩
  unfold richCompare
  simp only [oneThing_ref]
  refine wpAny_holding (wpAny_bind (wpAny_cRoomFor (by omega) ?_))
  refine wpAny_bind (I.type.here (wpAny_bind (hb.here ?_)))
  split
  · rename_i q
    have e : PySem.W.subIn K tb (.ref C) = some false := by
      rcases Bool.or_eq_true_iff.mp hn with e | e
      · rw [beq_iff_eq.mp e] at q; simp at q
      · exact beq_iff_eq.mp e
    refine wpAny_bind ((PySem.W.looks_subIn X e).here ?_)
    simp only [Bool.false_eq_true, if_false]
    refine wpAny_bind (wpAny_mono one (fun r s' z => ?_) fun _ _ e => e)
    obtain ⟨v, rfl, hq⟩ := z
    exact wpAny_pure hq
  · refine wpAny_bind (wpAny_pure ?_)
    simp only [Bool.false_eq_true, if_false]
    refine wpAny_bind (wpAny_mono one (fun r s' z => ?_) fun _ _ e => e)
    obtain ⟨v, rfl, hq⟩ := z
    exact wpAny_pure hq
theorem op_neOwn (F : FnOk X.prog X.w X.K X.mg X.base CX n f fd ps sp) (hne : PySem.W.findIn X.K (.ref C) "__ne__" = some (some (.builtin "object.__ne__"))) (hm : PySem.W.mroIn X.K C (.type "object") = some true)
    (hs : PySem.W.findIn X.K (.ref C) "__eq__" = some (some (.ref f))) (hf : PySem.W.isFn X.K (.ref f) = true) (hb : L2.Binds X.K fd ps []) (hx : Passes CX X E) (hr : Room (n + 1) X.A) :
    OpR X (compareOp .NotEq) (rOwn X.K C sp E true) := by
  intro pins s σ H x y u v Q I rx ry ⟨a, dx, fs, ex, ha, ho, hsp⟩
  subst ex
  cases (show u = Value.ref a from rx)
  obtain ⟨mA, J, _⟩ := ins_get I.hok ha
  obtain ⟨od, J, _⟩ := J.look
  obtain ⟨tb, L, hn⟩ := ho.looks I ry
  show wpAny (model X.prog X.w) X.A (richCompare .NotEq (.ref a) v) (EP X pins σ Q) X.xe s
  have un := hr.un
  refine rc_ne (by omega) I.kIn J L hn hm hne hs hf ?_
  refine wpAny_mono (own_call F hb hx hr.in1 rfl I (x := .ref a) rfl ry hsp) (fun w s' h => ?_) fun _ _ h => h
  obtain ⟨z, H', rz, I', b, ez, q⟩ := h
  subst ez
  cases (show w = Value.bool b from rz)
  exact ⟨b, rfl, .bl (!b), H', I', rfl, q⟩
/-- what is built in on the left declines, then the own == is asked -/
theorem rc_left {prog : Program} {w : World} {A : Around} {E : Value → Shared → Prop} {s : Shared} {K : PySem.W.Frag} {x C f : Addr} {ox : Obj} {od : Option Obj} {a : Value} {T : String} {Q : Value → Shared → Prop} (hu : A.units < cLine) (X : K.In s.heap) (I : PySem.W.InstAt s.heap x ox C od)
    (hT : s.TypeIs a T) (hsub : PySem.W.subIn K (.ref C) (.type T) = some false) (ho : oneThing? .Eq a (.ref x) = none)
    (one : wpAny (model prog w) A (tryCompare a "__eq__" (.ref x)) (fun r s' => r = none ∧ s' = s) E s)
    (hs : PySem.W.findIn K (.ref C) "__eq__" = some (some (.ref f))) (hf : PySem.W.isFn K (.ref f) = true) (h : wpAny (model prog w) A (call (.ref f) [.ref x, a]) (fun r s' => ∃ c, r = .bool c ∧ Q (.bool c) s') E s) :
    wpAny (model prog w) A (richCompare .Eq a (.ref x)) Q E s := by
  have two : wpAny (model prog w) A (tryCompare (.ref x) "__eq__" a) (fun r s' => ∃ v, r = some v ∧ Q v s') E s := by
    unfold tryCompare
    refine wpAny_bind (PySem.W.ifBound_K X I hs hf (wpAny_mono h (fun v s' hv => ?_) fun _ _ e => e))
    obtain ⟨c, rfl, q⟩ := hv
    exact wpAny_pure ⟨_, rfl, q⟩
  simp only [richCompare, cmpInfo_Eq, ho]
  refine wpAny_holding (wpAny_bind (wpAny_cRoomFor hu ?_))
  refine wpAny_bind (wpAny_typeOf hT ?_)
  refine wpAny_bind (I.type.here ?_)
  split
  · refine wpAny_bind ((PySem.W.looks_subIn X hsub).here ?_)
    simp only [Bool.false_eq_true, if_false, Bool.not_false, if_true]
    refine wpAny_bind (m := tryCompare a _ (.ref x)) (wpAny_mono one (fun r s1 z => ?_) fun _ _ e => e)
    obtain ⟨z1, z2⟩ := z
    subst z1
    subst z2
    refine wpAny_bind (m := tryCompare (.ref x) _ a) (wpAny_mono two (fun r s2 z => ?_) fun _ _ e => e)
    obtain ⟨v, rfl, q⟩ := z
    exact wpAny_pure q
  · rename_i q
    exact absurd (by simp) q
/-- None == x -/
def rNonL (C : Addr) (sp : Sp) (E : XK) : R2 := fun x y H Q => x = .non ∧ ∃ a dx fs, y = .ref a ∧ H a = some (.ins C dx fs) ∧ sp [y, .non] H (fun v H' => ∃ b : Bool, v = .bl b ∧ Q (.bl b) H') E
theorem op_eqNonL (F : FnOk X.prog X.w X.K X.mg X.base CX n f fd ps sp) (hsub : PySem.W.subIn X.K (.ref C) (.type "NoneType") = some false)
    (hs : PySem.W.findIn X.K (.ref C) "__eq__" = some (some (.ref f))) (hf : PySem.W.isFn X.K (.ref f) = true) (hb : L2.Binds X.K fd ps []) (hx : Passes CX X E) (hr : Room n X.A) :
    OpR X (compareOp .Eq) (rNonL C sp E) := by
  intro pins s σ H x y u v Q I rx ry ⟨ex, a, dx, fs, ey, ha, hsp⟩
  subst ex
  subst ey
  cases (show u = Value.none from rx)
  cases (show v = Value.ref a from ry)
  obtain ⟨mA, J, _⟩ := ins_get I.hok ha
  obtain ⟨od, J, _⟩ := J.look
  show wpAny (model X.prog X.w) X.A (richCompare .Eq .none (.ref a)) (EP X pins σ Q) X.xe s
  refine rc_left hr.units0 I.kIn J (show s.TypeIs .none "NoneType" from rfl) hsub rfl (non_declines a) hs hf ?_
  refine wpAny_mono (own_call F hb hx hr rfl I (x := .ref a) (y := .non) rfl rfl hsp) (fun w s' h => ?_) fun _ _ h => h
  obtain ⟨z, H', rz, I', b, ez, q⟩ := h
  subst ez
  cases (show w = Value.bool b from rz)
  exact ⟨b, rfl, .bl b, H', I', rfl, q⟩
/-- {..} == x -/
def rDctL (C : Addr) (sp : Sp) (E : XK) : R2 := fun x y H Q => ∃ d kvs a dx fs, x = .ref d ∧ H d = some (.dK kvs) ∧ y = .ref a ∧ H a = some (.ins C dx fs) ∧ sp [y, x] H (fun v H' => ∃ b : Bool, v = .bl b ∧ Q (.bl b) H') E
theorem op_eqDctL (F : FnOk X.prog X.w X.K X.mg X.base CX n f fd ps sp) (hsub : PySem.W.subIn X.K (.ref C) (.type "dict") = some false)
    (hs : PySem.W.findIn X.K (.ref C) "__eq__" = some (some (.ref f))) (hf : PySem.W.isFn X.K (.ref f) = true) (hb : L2.Binds X.K fd ps []) (hx : Passes CX X E) (hr : Room n X.A) :
    OpR X (compareOp .Eq) (rDctL C sp E) := by
  intro pins s σ H x y u v Q I rx ry ⟨d, kvs, a, dx, fs, ex, hd, ey, ha, hsp⟩
  subst ex
  subst ey
  cases (show u = Value.ref d from rx)
  cases (show v = Value.ref a from ry)
  obtain ⟨mA, J, _⟩ := ins_get I.hok ha
  obtain ⟨od, J, _⟩ := J.look
  show wpAny (model X.prog X.w) X.A (richCompare .Eq (.ref d) (.ref a)) (EP X pins σ Q) X.xe s
  have hT : s.TypeIs (.ref d) "dict" := TyB.is I (x := .ref d) rfl (.dK hd)
  refine rc_left hr.units0 I.kIn J hT hsub rfl (dict_declines hT I.kIn J hsub) hs hf ?_
  refine wpAny_mono (own_call F hb hx hr rfl I (x := .ref a) (y := .ref d) rfl rfl hsp) (fun w s' h => ?_) fun _ _ h => h
  obtain ⟨z, H', rz, I', b, ez, q⟩ := h
  subst ez
  cases (show w = Value.bool b from rz)
  exact ⟨b, rfl, .bl b, H', I', rfl, q⟩
end
/-! ### dicts of flat things: == of any answer -/
def eqKv (ks ls : List (Key × V)) : Bool := ks.all fun p => match valV ls p.1 with | some u => eqV p.2 u | none => false
theorem hits_flat {P : Program} {w : World} {A : Around} {s : Shared} {ls : List (Key × V)} {vb : List (Key × Value)} (rb : KV ls vb) (fl : ∀ k u, valV ls k = some u → flatV u = true) {ks : List (Key × V)} {va : List (Key × Value)}
    (ra : KV ks va) : (∀ p ∈ ks, flatV p.2 = true) → PySem.W.KeqHitsP P w A s vb va (eqKv ks ls) := by
  unfold KV at ra
  induction ra with
  | nil => intro _; exact .nil
  | @cons p q ps qs h t k =>
    intro hp
    obtain ⟨h1, h2⟩ := h
    have rr : RelO (valV ls p.1) (valueAt vb p.1) := rb.val p.1
    obtain ⟨key, v⟩ := q
    have h1' : p.1 = key := h1
    have rest := k fun p' hm => hp p' (List.mem_cons_of_mem _ hm)
    cases e : valV ls p.1 with
    | none =>
      rw [e] at rr
      have hn : valueAt vb key = none := by
        rw [← h1']
        cases hv : valueAt vb p.1 with
        | none => rfl
        | some z => rw [hv] at rr; exact rr.elim
      have hb : eqKv (p :: ps) ls = false := by unfold eqKv; rw [List.all_cons, e]; rfl
      rw [hb]
      exact .miss hn
    | some u =>
      rw [e] at rr
      obtain ⟨y, hy, ry⟩ := rr.some_of
      rw [h1'] at hy
      have hb : eqKv (p :: ps) ls = (eqV p.2 u && eqKv ps ls) := by unfold eqKv; rw [List.all_cons, e]
      rw [hb]
      exact .hit hy (eqAt_V h2 ry (hp p List.mem_cons_self) (fl _ _ e)).eqP rest
/-- the reading of a == b -/
def rEqDF : R2 := fun x y H Q => ∃ a b ks ls, x = .ref a ∧ y = .ref b ∧ H a = some (.dK ks) ∧ H b = some (.dK ls) ∧ (∀ p ∈ ks, flatV p.2 = true) ∧ (∀ k u, valV ls k = some u → flatV u = true) ∧ Q (.bl (ks.length == ls.length && eqKv ks ls)) H
theorem op_eqDF {X : Cx} (hu : X.A.units + 64 < cLine) : OpR X (compareOp .Eq) rEqDF := by
  intro pins s σ H x y v u Q I rx ry ⟨a, b, ks, ls, ex, ey, ha, hb, f1, f2, q⟩
  subst ex
  subst ey
  cases (show v = Value.ref a from rx)
  cases (show u = Value.ref b from ry)
  obtain ⟨_, ya, va, ra, da⟩ := (show ObjOk X.prog X.w H s.heap a (.dK ks) from I.hok a _ ha)
  obtain ⟨_, yb, vb, rb, db⟩ := (show ObjOk X.prog X.w H s.heap b (.dK ls) from I.hok b _ hb)
  have la : ks.length = va.length := by unfold KV at ra; exact ra.length
  have lb : ls.length = vb.length := by unfold KV at rb; exact rb.length
  refine PySem.W.rcP_dicts (knd := mixKind X.prog X.w) (r := eqKv ks ls) ya yb da db (by omega) (fun _ => hits_flat rb f2 ra f1) _ _ ?_
  rw [← la, ← lb]
  exact ⟨.bl _, H, I, rfl, q⟩
/-! ### list(d.values()) -/
theorem paired_ix {α β : Type} {R : α → β → Prop} : ∀ {xs : List α} {ys : List β}, xs.length = ys.length → (∀ (i : Nat) (y : β), ys[i]? = some y → ∃ x, xs[i]? = some x ∧ R x y) → Paired R xs ys
  | [], [], _, _ => .nil
  | x :: xs, y :: ys, h, k => by
    obtain ⟨x', e, r⟩ := k 0 y rfl
    cases e
    exact .cons r (paired_ix (Nat.succ.inj h) fun i z hz => k (i + 1) z hz)
  | [], _ :: _, h, _ => nomatch h
  | _ :: _, [], h, _ => nomatch h
def tListVals (td : TE) : TE := fun σ H Q => td σ H fun x H1 => ∃ a kvs, x = V.ref a ∧ H1 a = some (.dK kvs) ∧ ∀ p, H1 p = none → Q (.ref p) (upd H1 p (.lst (kvs.map (·.2))))
theorem pe_listVals {X : Cx} {o : Expr} {td : TE} {p pos apos mpos : Pos} (hc : X.calm = true) (hg : Gl X "list") (hm : X.mg "list" = none) (hd : PE X o td) (hbase : attributeBase o "values" X.env (eval o X.env) = eval o X.env := by rfl) (hline : (apos.endLine == mpos.line) = true := by rfl)
    (hse : starEach [Expr.Call (.Attribute o "values" apos) [] [] mpos] X.env = [(false, eval (Expr.Call (.Attribute o "values" apos) [] [] mpos) X.env)] := by rfl) :
    PE X (.Call (.Name "list" p) [.Call (.Attribute o "values" apos) [] [] mpos] [] pos) (tListVals td) := by
  refine ⟨fun pins s σ H Q I h => ?_⟩
  refine wpAny_Call_Name_kw (ld_blt I hg hm (u := .type "list") (by first | rfl | decide +kernel) ?_ (by first | decide +kernel | decide) (by first | decide +kernel | decide))
  rw [hse]
  refine PySem.callWith_type1 (wpAny_Call_method0_late hbase hline (thn (hd.run pins s σ H _ I h) fun v s1 ⟨x, H1, I1, r1, a, kvs, ex, ha, q⟩ => ?_))
  subst ex
  obtain rfl : v = Value.ref a := r1
  obtain ⟨hz, hsys, vs, rel, dof⟩ := dk_of I1.hok ha
  obtain ⟨ep, dat⟩ := dof.dictAt
  have dat' := dat
  obtain ⟨ob, es, ho, ex, hdat, hko, hpr, hnd⟩ := dat'
  refine ⟨"dict", "dict.values", F.plainAttrs_dict, F.slot_dict_values, F.type_dict_values, ⟨ob, ho, ex.1⟩, fun b e => ?_, Calls.callWith_builtin rfl (PySem.evalArgs_none ?_)⟩
  · cases e
    exact ⟨ob, ho, ex.2.1⟩
  refine call_meetsIn F.slot_dict_values ⟨ob, ho, ex.1⟩ F.entry_dict_values (F.args_dict_values_1 _) (meets_dict_values (mixKind X.prog X.w) a hsys) ⟨⟨vs, dof⟩, ?_⟩
  have k1 : ∀ b u, s1.heap.get? b = some u → (s1.heap.push { cls := .type "dict_values", data := .fields #[.ref a] }).get? b = some u := fun b u e => Heap.get?_push_of_some _ e
  have dat1 : (s1.heap.push { cls := .type "dict_values", data := .fields #[.ref a] }).DictAt (mixKind X.prog X.w) a vs ep := dat.keep k1
  have I2 : L2.Inv X pins σ H1 { s1 with heap := s1.heap.push { cls := .type "dict_values", data := .fields #[.ref a] } } := I1.kept (t' := s1.toks) k1
  have hlv : kvs.length = vs.length := by unfold KV at rel; exact rel.length
  refine PySem.W.kdl_call (s := { s1 with heap := s1.heap.push { cls := .type "dict_values", data := .fields #[.ref a] } }) (PySem.W.kdl_values (knd := mixKind X.prog X.w) (kvs := vs) (ep := ep) (r := s1.heap.objs.size) (d := a)) (I.ok.hd hc) ⟨⟨_, Heap.get?_push_size _ rfl, rfl, rfl⟩, dat1⟩ (by rw [← hlv]; exact hz) fun h' tk acc c' hk hD hacc => ?_
  have hv : L2.Vals (kvs.map (·.2)) acc.toList := by
    refine paired_ix (by rw [List.length_map, Array.length_toList]; exact hlv.trans hacc.1.symm) fun i v e => ?_
    obtain ⟨k, hk2⟩ := hacc.2 i v (by rw [← Array.getElem?_toList]; exact e)
    obtain ⟨x, h1, h2⟩ := KV.at' rel hk2
    exact ⟨x, by rw [List.getElem?_map, h1] <;> rfl, h2⟩
  refine ⟨.ref _, upd H1 _ (.lst (kvs.map (·.2))), I2.laid (t' := tk) hk (Nat.le_refl _)
    (show ObjOk X.prog X.w _ _ _ (.lst (kvs.map (·.2))) from ⟨by rw [List.length_map]; exact hz, acc.toList, c', hv, by rw [Array.toArray_toList]; exact hD⟩), rfl, q _ (I2.hok.fresh (Nat.le_refl _))⟩
end Own
set_option Elab.async false
set_option linter.all false
set_option maxRecDepth 100000
set_option maxHeartbeats 2000000
/-! x in d.values(); iter(d); what is walked of an instance whose own __iter__ returns iter(d) -/
namespace Own
open PySem PySem.Spec PyProof.Rows L2
/-! ### d.values() as a value, and x in it -/
def VvO (d v : Addr) : HO := .ext fun h => h.IsValuesView v d
theorem mt_values {X : Cx} : MtR X "dict.values" (fun x vs H Q => ∃ (d : Addr) (kvs : List (Key × V)), x = .ref d ∧ vs = [] ∧ H d = some (.dK kvs) ∧ ∀ v, H v = none → Q (.ref v) (upd H v (VvO d v))) := by
  intro pins s σ H x xs v us Q I rx rv ⟨d, kvs, ex, e0, hd, q⟩
  subst ex
  subst e0
  cases rv
  cases (show v = Value.ref d from rx)
  obtain ⟨hz, hsys, vs, rel, dof⟩ := dk_of I.hok hd
  refine call_meetsIn F.slot_dict_values dof.typeIs F.entry_dict_values (F.args_dict_values_1 _) (meets_dict_values (mixKind X.prog X.w) d hsys) ⟨⟨vs, dof⟩, ?_⟩
  have hg : (s.heap.push { cls := .type "dict_values", data := .fields #[.ref d] }).get? s.heap.objs.size = some { cls := .type "dict_values", data := .fields #[.ref d] } := Heap.get?_push_size _ rfl
  refine ⟨.ref s.heap.objs.size, upd H _ (VvO d _), I.laid (t' := s.toks) (fun b u e => Heap.get?_push_of_some _ e) (Nat.le_refl _) ?_, rfl, q _ (I.hok.fresh (Nat.le_refl _))⟩
  exact ⟨⟨_, hg, rfl, rfl⟩, ⟨_, hg⟩, fun h1 h2 ⟨o, e, r⟩ k => ⟨o, k _ e, r⟩⟩
theorem entry_citer : entryFor table "proto.contains_iter" = some Builtin.«proto.contains_iter» := entryFor_of_fast (by kernel_rfl)
theorem plain_citer : plainId "proto.contains_iter" = true := by decide +kernel
theorem vals_noc : typeLookup (.type "dict_values") "__contains__" = pure none := by rw [typeLookup_type, builtinLookup_eq_fast]; kernel_rfl
section
variable {prog : Program} {w : World} {A : Around} {I : Addr} {fp wr : List Addr} {vs : List Value} {St : Nat → Heap → Prop}
theorem citer_loop {R : Result → Shared → Prop} (W : Walks prog w A.in1 I fp wr vs.length (fun i v => vs[i]? = some v) St) (x : Value) (r : Value → Bool) (heq : ∀ v ∈ vs, ∀ s, SeqAt.EqAt A.in1 s v x (r v)) :
    ∀ (k i : Nat) (s : Shared), vs.length - i = k → i ≤ vs.length → St i s.heap →
    (∀ h' tk, (∀ b o, b ∉ wr → s.heap.get? b = some o → h'.get? b = some o) → R (.ok (.ret (.bool ((vs.drop i).any r)))) { s with heap := h', toks := tk }) →
    codeAny (model prog w) A (.builtin "proto.contains_iter" ⟨[.ref I, x], []⟩) R s := by
  intro k
  induction k with
  | zero =>
    intro i s hk hi hst hR
    have e : i = vs.length := by omega
    subst e
    refine codeAny_builtin entry_citer ?_
    rw [Around.under_plainId plain_citer _]
    show wpAny _ A.in1 (pyNext (.ref I) >>= _) _ _ s
    refine wpAny_bind (W.done s _ _ hst fun h' tk hm => ?_)
    have q := hR h' tk hm
    rw [List.drop_length] at q
    exact wpAny_bind (wpAny_rule (wpAny_pure q))
  | succ k ih =>
    intro i s hk hi hst hR
    have hlt : i < vs.length := by omega
    refine codeAny_builtin entry_citer ?_
    rw [Around.under_plainId plain_citer _]
    show wpAny _ A.in1 (pyNext (.ref I) >>= _) _ _ s
    refine wpAny_bind (W.item i s _ _ hlt hst fun v h' tk hP hst' hm => ?_)
    have hv : vs[i] = v := by rw [List.getElem?_eq_getElem hlt] at hP; exact Option.some.inj hP
    show wpAny _ A.in1 (eqBool v x >>= _) _ _ _
    refine wpAny_bind (heq v (List.mem_of_getElem? hP) _ _ _ _ _ ?_)
    have ed : (vs.drop i).any r = (r v || (vs.drop (i + 1)).any r) := by rw [List.drop_eq_getElem_cons hlt, List.any_cons, hv]
    cases hr : r v with
    | true =>
      rw [ed, hr, Bool.true_or] at hR
      refine wpAny_bind (wpAny_rule (wpAny_pure (hR h' tk hm)))
    | false =>
      rw [ed, hr, Bool.false_or] at hR
      exact wpAny_pure ⟨plainId_quiet plain_citer _, ih (i + 1) { s with heap := h', toks := tk } (by omega) hlt hst' fun h2 tk2 hm2 => hR h2 tk2 fun b o nb e => hm2 b o nb (hm b o nb e)⟩
end
def rInVals (K : PySem.W.Frag) : R2 := fun x y H Q => ∃ v d kvs, y = .ref v ∧ H v = some (VvO d v) ∧ Rd H d (.dK kvs) ∧ flatV x = true ∧ (kvs.map (·.2)).all flatV = true ∧ Q (.bl (inV x (kvs.map (·.2)))) H
theorem op_inVals {X : Cx} (hc : X.calm = true) : OpR X (compareOp .In) (rInVals X.K) := by
  intro pins s σ H x y v u Q I rx ry ⟨va, d, kvs, ey, hv, hd, fx, fs, q⟩
  subst ey
  cases (show u = Value.ref va from ry)
  have view : s.heap.IsValuesView va d := (show ObjOk X.prog X.w H s.heap va (VvO d va) from I.hok va _ hv).1
  obtain ⟨hz, hsys, vs, rel, dof⟩ := dk_rd I.hok hd
  obtain ⟨ep, dat⟩ := dof.dictAt
  have hT := view.typeIs
  have hlv : kvs.length = vs.length := by unfold KV at rel; exact rel.length
  have hvals : Vals (kvs.map (·.2)) (vs.map (·.2)) := paired_ix (by rw [List.length_map, List.length_map]; exact hlv) fun i z e => by
    rw [List.getElem?_map] at e
    cases e2 : vs[i]? with
    | none => rw [e2] at e; cases e
    | some p =>
      rw [e2] at e
      obtain ⟨y, h1, h2⟩ := KV.at' rel (i := i) (k := p.1) (v := p.2) e2
      obtain rfl : p.2 = z := Option.some.inj e
      exact ⟨y, by rw [List.getElem?_map, h1]; rfl, h2⟩
  show wpAny (model X.prog X.w) X.A ((contains (.ref va) v) >>= fun b => pure (Value.bool b)) (EP X pins σ Q) X.xe s
  refine wpAny_bind ?_
  unfold contains
  refine wpAny_holding ?_
  have e0 : stdlibNamesSay? (.ref va) v = none := by
    first | rfl | (cases v <;> rfl)
  simp only [e0]
  refine wpAny_bind (wpAny_specialOf hT vals_noc ?_)
  refine wpAny_ite_split (fun hab => absurd hab (by decide)) (fun _ => ?_)
  unfold callSpecialUnlessNone?
  refine wpAny_bind (wpAny_bind (wpAny_specialOf hT vals_noc ?_))
  refine wpAny_pure ?_
  refine wpAny_bind (wpAny_rule ?_)
  refine wpAny_bind (wpAny_tryCatch (wpAny_pyIter_values (knd := mixKind X.prog X.w) view dat ?_))
  have kp : ∀ b o, s.heap.get? b = some o → (s.heap.push { cls := .type "dict_valueiterator", data := .fields #[.ref d, .int 0 0, .int vs.length 0, .int ep 0] }).get? b = some o := fun b o e => Heap.get?_push_of_some _ e
  have hit : (s.heap.push { cls := .type "dict_valueiterator", data := .fields #[.ref d, .int 0 0, .int vs.length 0, .int ep 0] }).IsValIter s.heap.objs.size d 0 vs.length ep := ⟨_, Heap.get?_push_size _ rfl, rfl, rfl⟩
  have ne : d ≠ s.heap.objs.size := Nat.ne_of_lt dat.lt_size
  have W := Walks.dictValues (prog := X.prog) (w := X.w) (A := X.A.in1.in1) (knd := mixKind X.prog X.w) (I.ok.hd hc) s.heap.objs.size d ne vs ep
  have ln : (vs.map (·.2)).length = vs.length := List.length_map ..
  have W2 : Walks X.prog X.w X.A.in1 s.heap.objs.size [s.heap.objs.size, d] [s.heap.objs.size] (vs.map (·.2)).length (fun i v => (vs.map (·.2))[i]? = some v) (fun i h => h.IsValIter s.heap.objs.size d i vs.length ep ∧ h.DictAt (mixKind X.prog X.w) d vs ep) :=
    ⟨W.of_in1.sub, W.of_in1.frame, fun i s Q E hi st hQ => W.of_in1.item i s Q E (by rw [ln] at hi; exact hi) st fun z h' tk hP => hQ z h' tk (by
      obtain ⟨k, e⟩ := hP
      rw [List.getElem?_map, e]
      rfl), fun s Q E st hQ => W.of_in1.done s Q E (by rw [ln] at st; exact st) hQ, W.of_in1.self⟩
  refine wpAny_bind (wpAny_runValue (citer_loop W2 v (eqU x) (fun z hz s' => mem_eqAt rx ‹_› hvals fs z hz) _ 0 { s with heap := _ } rfl (Nat.zero_le _) ⟨hit, dat.push _⟩ fun h' tk hm => ?_))
  have kp2 : ∀ b o, s.heap.get? b = some o → h'.get? b = some o := fun b o e => hm b o (fun z => by
    rw [List.mem_singleton.mp z] at e
    exact Nat.lt_irrefl _ (Heap.lt_size e)) (kp b o e)
  have fin : wpAny (model X.prog X.w) X.A (pure (Value.bool (inV x (kvs.map (·.2))))) (EP X pins σ Q) X.xe { s with heap := h', toks := tk } := wpAny_pure ⟨.bl _, H, I.kept (t' := tk) kp2, rfl, q⟩
  rw [List.drop_zero, any_eqU hvals fs]
  exact wpAny_pure fin
theorem inValsOf {X : Cx} {K : PySem.W.Frag} (h : X.K = K) (hc : X.calm = true) : OpR X (compareOp .In) (rInVals K) := h ▸ op_inVals hc
theorem bm0Of {X : Cx} {K : PySem.W.Frag} (h : X.K = K) {T id : String} {name : Str} {o : Expr} {to : TE} {r : V → List V → Hp → VK → Prop} {apos cpos : Pos} (pa : PlainAttrs T) (slot : Slot T name id) (hty : typeOf (.builtin id) = pure (.type "method_descriptor")) (hm : MtR X id r) (ho : PE X o to)
    (hbase : attributeBase o name X.env (eval o X.env) = eval o X.env := by rfl) (hline : (apos.endLine == cpos.line) = true := by rfl) : PE X (.Call (.Attribute o name apos) [] [] cpos) (tBM0 K T r to) := h ▸ pe_bm0 pa slot hty hm ho hbase hline
end Own
set_option Elab.async false
set_option linter.all false
set_option maxRecDepth 100000
set_option maxHeartbeats 2000000
/-! iter(d); what is walked of an instance whose own __iter__ returns iter(d) -/
namespace Own
open PySem PySem.Spec PyProof.Rows L2
/-! ### a base as large as the heap of a call -/
def padTo (h : Heap) (n : Nat) : Heap := { h with objs := h.objs ++ Array.replicate (n - h.objs.size) { cls := .none, data := .freed } }
theorem padTo_get {h : Heap} {n : Nat} {b : Addr} : (padTo h n).get? b = h.get? b := by
  unfold padTo Heap.get?
  rcases Nat.lt_or_ge b h.objs.size with lt | ge
  · rw [Array.getElem?_append_left lt]
  · rw [Array.getElem?_append_right ge, Array.getElem?_eq_none ge]
    rcases Nat.lt_or_ge (b - h.objs.size) (n - h.objs.size) with l2 | g2
    · rw [Array.getElem?_replicate, if_pos l2]
    · rw [Array.getElem?_replicate, if_neg (Nat.not_lt.mpr g2)]
theorem padTo_size {h : Heap} {n : Nat} (hn : h.objs.size ≤ n) : (padTo h n).objs.size = n := by
  unfold padTo
  simp only [Array.size_append, Array.size_replicate]
  omega
theorem padTo_ns {h : Heap} {n : Nat} {a : Addr} {m : Str → Option Value} (x : h.Ns a m) : (padTo h n).Ns a m := x.keeps fun b o e => padTo_get.trans e
theorem padTo_mod {K : PySem.W.Frag} {mg : Str → Option Value} {h : Heap} {n : Nat} (M : Mod K mg h) : Mod K mg (padTo h n) :=
  ⟨M.kin.keeps fun b o e => padTo_get.trans e, padTo_ns M.glob, M.blt.imp fun mb z => ⟨padTo_ns z.1, z.2⟩, M.nolimit.imp fun mc z => ⟨padTo_ns z.1, z.2⟩⟩
theorem padTo_frames {h base : Heap} {n : Nat} : ∀ {l : List Env}, h.FunFrames base l → h.FunFrames (padTo base n) l
  | [], _ => trivial
  | env :: rest, ⟨hk, ⟨L, o, hf, hn, ho, hd⟩, hr⟩ => ⟨hk, ⟨L, o, hf, padTo_get.trans hn, ho, hd⟩, padTo_frames hr⟩
section
variable {X : Cx} {pins : List (Addr × Obj)} {σ : L2.St} {H : Hp} {s : Shared}
theorem env_pad {A1 : Around} (hf : A1.frames = X.A.frames) (I : L2.Inv X pins σ H s) : Env0 X.prog X.w X.K X.mg (padTo X.base s.heap.objs.size) A1 X.stack s H := by
  have e := I.env0
  exact ⟨hf.trans e.frames, padTo_mod e.mod, fun b o z => e.bs b o (padTo_get.symm.trans z), by rw [padTo_size e.bsz]; exact Nat.le_refl _, padTo_frames e.funs, e.frf, e.hok, e.bare⟩
end
/-! ### iter(d) -/
def KiO (d : Addr) (od : Obj) (it : Addr) : HO := .ext fun h => ∃ es ep, od.data = .dict es ep ∧ h.IsKeyIter it d 0 es.size ep
def rIterD (n : Nat) : List V → Hp → VK → Prop := fun xs H Q => ∃ (d : Addr) (od : Obj) (kvs : List (Key × V)), xs = [.ref d] ∧ H d = some (.frz od (.dK kvs)) ∧ ∀ it, H it = none → n ≤ it → Q (.ref it) (upd H it (KiO d od it))
theorem call_iterD {X : Cx} : CallR X (.builtin "iter") (rIterD X.base.objs.size) := by
  intro pins s σ H xs us Q I r ⟨d, od, kvs, ex, hd, q⟩
  subst ex
  obtain rfl := Vals.ref1 r
  obtain ⟨hs, hgd, hx, es, ep, vs, hdt, hsz, kv, hm⟩ := I.frzK hd
  refine Calls.call_function_entry (by decide +kernel) (by decide +kernel) PySem.W.kdk_entry_iter (PySem.W.kdk_args_iter _) ?_
  unfold Builtin.«iter»
  refine wpAny_bind (m := someArgs "iter" 1 2 _) (wpAny_of_eq (a := [Value.ref d]) (by first | rfl | kernel_rfl!) ?_)
  show wpAny _ _ (pyIter (.ref d) >>= fun z => ret z) _ _ s
  refine wpAny_bind (iter_keys hs hgd hx hdt ?_)
  have hg : (s.heap.push { cls := .type "dict_keyiterator", data := .fields #[.ref d, .int 0 0, .int es.size 0, .int ep 0] }).get? s.heap.objs.size = some { cls := .type "dict_keyiterator", data := .fields #[.ref d, .int 0 0, .int es.size 0, .int ep 0] } := Heap.get?_push_size _ rfl
  refine wpAny_pure ⟨_, rfl, .ref s.heap.objs.size, upd H _ (KiO d od _), I.laid (t' := s.toks) (fun b u e => Heap.get?_push_of_some _ e) (Nat.le_refl _) ?_, rfl, q _ (I.hok.fresh (Nat.le_refl _)) (Nat.le_trans I.ok.bsz I.sz)⟩
  exact ⟨⟨es, ep, hdt, ⟨_, hg, rfl, rfl⟩⟩, ⟨_, hg⟩, fun h1 h2 ⟨es, ep, e, o, e1, r⟩ k => ⟨es, ep, e, o, k _ e1, r⟩⟩
/-- what __iter__ of the own class tells: an iterator over a dict's keys -/
def ItTold (R : It → Hp → Prop) (m : Nat) : VK := fun v H2 => ∃ it d od kvs, v = V.ref it ∧ H2 it = some (KiO d od it) ∧ H2 d = some (.frz od (.dK kvs)) ∧ m ≤ it ∧ R (Itk d od kvs) (ItX.dropH H2 it)
def iOwn (C : Addr) (sp : Nat → Sp) (E : XK) (te : TE) : TI := fun σ H R => te σ H fun x H1 => ∃ a dx fs, x = V.ref a ∧ H1 a = some (.ins C dx fs) ∧ ∀ m, sp m [x] H1 (ItTold R m) E
section
variable {X : Cx} {CX : CXT} {C f : Addr} {fd : FuncData} {ps : List Str} {n : Nat} {sp : Nat → Sp} {E : XK}
theorem own_it (F : ∀ base, FnOk X.prog X.w X.K X.mg base CX n f fd ps (sp base.objs.size)) (hb : L2.Binds X.K fd ps []) (hx : Passes CX X E) {A : Around} (hr : Room n A) (hfr : A.frames = X.A.frames)
    (hs : PySem.W.findIn X.K (.ref C) "__iter__" = some (some (.ref f))) (hf : PySem.W.isFn X.K (.ref f) = true)
    {pins : List (Addr × Obj)} {s : Shared} {σ : L2.St} {H : Hp} {a dx : Addr} {fs : List (Str × V)} {T : Nat → VK} (hT : ∀ m v H2, T m v H2 → ∃ it d od, v = V.ref it ∧ H2 it = some (KiO d od it)) (I : L2.Inv X pins σ H s) (ha : H a = some (.ins C dx fs)) (hsp : ∀ m, sp m [.ref a] H (T m) E) :
    wpAny (model X.prog X.w) A (pyIter (.ref a)) (fun u s' => ∃ it H2, u = .ref it ∧ L2.Inv X pins σ H2 s' ∧ T s.heap.objs.size (.ref it) H2) X.xe s := by
  obtain ⟨mA, J, _⟩ := ins_get I.hok ha
  obtain ⟨od0, J, _⟩ := J.look
  obtain ⟨m, hF⟩ := I.fr
  refine PySem.W.owit_iter hF I.ok.mod.kin J hs hf ?_
  have e0 := env_pad hfr I
  have hsp := hsp (padTo X.base s.heap.objs.size).objs.size
  have F := F (padTo X.base s.heap.objs.size)
  have hl := F.len _ _ _ _ hsp
  have r2 : L2.Vals [V.ref a] [Value.ref a] := .cons rfl .nil
  refine wpAny_call (codeAny_mono (F.run A X.stack s H ⟨[.ref a], []⟩ [.ref a] [.ref a] _ E hr e0 (by
    have := hb s [.ref a] I.kIn (by simpa using hl)
    simpa using this) r2 hsp) fun r s' hq => ?_)
  rw [padTo_size (Nat.le_trans I.ok.bsz I.sz)] at hq
  cases r with
  | error e => exact hx pins σ H s e s' I hq
  | ok fl =>
    cases fl with
    | ret u =>
      obtain ⟨v, H2, I2, rv, ht⟩ := I.after hq
      obtain ⟨it, d, od, ev, h1⟩ := hT _ _ _ ht
      subst ev
      cases (show u = Value.ref it from rv)
      have hk : ∃ es ep, od.data = .dict es ep ∧ s'.heap.IsKeyIter it d 0 es.size ep := (show ObjOk X.prog X.w H2 s'.heap it (KiO d od it) from I2.hok it _ h1).1
      obtain ⟨es, ep, _, hk⟩ := hk
      show PySem.W.OwitIt _ _ _ _ _ _
      unfold PySem.W.OwitIt
      refine wpAny_specialOf hk.typeIs PySem.F.slot_dict_keyiterator_next.lookup ?_
      exact ⟨it, H2, rfl, I2, ht⟩
    | next => exact False.elim hq
    | brk => exact False.elim hq
    | cont => exact False.elim hq
theorem pi_own {tg e : Expr} {te : TE} (F : ∀ base, FnOk X.prog X.w X.K X.mg base CX n f fd ps (sp base.objs.size)) (hb : L2.Binds X.K fd ps []) (hx : Passes CX X E) (hr : Room n X.A)
    (hs : PySem.W.findIn X.K (.ref C) "__iter__" = some (some (.ref f))) (hf : PySem.W.isFn X.K (.ref f) = true) (he : PE X e te) : PI X tg e (iOwn C sp E te) := by
  refine ⟨fun pins s σ H R I h => ?_⟩
  refine thn (he.run pins s σ H _ I h) fun v s1 ⟨x, H1, I1, r1, a, dx, fs, ex, ha, hsp⟩ => ?_
  subst ex
  cases (show v = Value.ref a from r1)
  refine wpAny_mono (own_it F hb hx hr rfl hs hf (fun m v H2 ⟨it, d, od, kvs, e1, e2, _⟩ => ⟨it, d, od, e1, e2⟩) I1 ha hsp) (fun u s2 h2 => ?_) fun _ _ z => z
  obtain ⟨it0, H2, eu, I2, it, d, od, kvs, e0, hi, hd, hz, hR⟩ := h2
  have e9 : it = it0 := by cases e0; rfl
  subst e9
  have hz := Nat.le_trans I1.sz hz
  obtain ⟨es, ep, hod, hk⟩ := (show ObjOk X.prog X.w H2 s2.heap it (KiO d od it) from I2.hok it _ hi).1
  obtain ⟨_, _, _, es2, ep2, vs, hdt, hsz, kv, hm⟩ := I2.frzK hd
  obtain ⟨e1, e2⟩ := dict_ep hod hdt
  subst e1
  rw [hsz] at hk
  refine ⟨it, [it], _, _, _, eu, ItX.inv_drop I2 hi, turn_keys it hod, hk, fun b hb => ?_, hR⟩
  rw [List.mem_singleton.mp hb]
  exact ItX.inv_fp I2 hi hz
/-- the keys fill a list -/
theorem key_loop {pins : List (Addr × Obj)} {σ : L2.St} {A : Around} {Rs : Result → Shared → Prop} {S d it : Addr} {od : Obj} {kvs : List (Key × V)} {ep : Nat} {es : Array DictEntry} (hh : A.handled = none) (hod : od.data = .dict es ep) (hz : kvs.length ≤ sizeLine) (hS : S ≠ it) (hSd : S ≠ d)
    : ∀ (k i : Nat) (H : Hp) (s : Shared), kvs.length - i = k → i ≤ kvs.length → L2.Inv X pins σ H s → FpOk X pins H it → H d = some (.frz od (.dK kvs)) → H S = some (.lst ((kvs.take i).map fun p => kV p.1)) → s.heap.IsKeyIter it d i kvs.length ep →
      (∀ s', L2.Inv X pins σ (upd H S (.lst (kvs.map fun p => kV p.1))) s' → Rs (.ok (.ret .none)) s') →
      codeAny (model X.prog X.w) A (.builtin "list.extend.loop" ⟨[.ref S, .ref it, .none], []⟩) Rs s := by
  intro k
  induction k with
  | zero =>
    intro i H s hk hi I fp hd hl st hR
    have e : i = kvs.length := by omega
    subst e
    obtain ⟨f0, f1, f2, f3, f4, f5⟩ := fp
    obtain ⟨_, hgd, _, es2, ep2, vs, hdt, hsz, kv, hm⟩ := I.frzK hd
    obtain ⟨e1, e2⟩ := dict_ep hod hdt
    subst e1
    subst e2
    refine codeAny_builtin PySem.F.entry_extend_loop ?_
    rw [Around.under_plainId PySem.F.plain_extend_loop _]
    show wpAny _ A.in1 (pyNext (.ref it) >>= _) _ _ s
    refine wpAny_bind (next_key_end hh st hgd hdt hsz (Nat.le_refl _) fun h' eb => ?_)
    have I1 := I.turned (t' := s.toks) (fun b o hb e => eb b o hb e) f0 f1 f3 f4 f5
    rw [List.take_length] at hl
    refine wpAny_pure (hR _ ?_)
    rw [show upd H S (.lst (kvs.map fun p => kV p.1)) = H from by
      funext b
      by_cases hb : b = S
      · rw [hb, upd_same, hl]
      · rw [upd_ne hb]]
    exact I1
  | succ k ih =>
    intro i H s hk hi I fp hd hl st hR
    have hlt : i < kvs.length := by omega
    obtain ⟨f0, f1, f2, f3, f4, f5⟩ := fp
    obtain ⟨_, hgd, _, es2, ep2, vs, hdt, hsz, kv, hm⟩ := I.frzK hd
    obtain ⟨e1, e2⟩ := dict_ep hod hdt
    subst e1
    subst e2
    have hlv : kvs.length = vs.length := Paired.length kv
    obtain ⟨u, hu, ru⟩ := kv_get kv (show kvs[i]? = some (kvs[i].1, kvs[i].2) from List.getElem?_eq_getElem hlt)
    refine codeAny_builtin PySem.F.entry_extend_loop ?_
    rw [Around.under_plainId PySem.F.plain_extend_loop _]
    show wpAny _ A.in1 (pyNext (.ref it) >>= _) _ _ s
    rw [hlv] at st
    refine wpAny_bind (wpAny_pyNext_dict_item st hm hu fun key h' hkey st' sb => ?_)
    have I1 : L2.Inv X pins σ H { s with heap := h' } := I.turned (t' := s.toks) (fun b ob hb e => (sb.2 b hb).trans e) f0 f1 f3 f4 f5
    obtain ⟨z, its, cc, r2, hln, e⟩ := I1.lstM hl
    have lt2 : its.length = i := by rw [← hln, List.length_map, List.length_take]; omega
    show wpAny _ A.in1 (updateSeq S (·.push key) >>= _) _ _ _
    have et : (kvs.take (i + 1)).map (fun p => kV p.1) = (kvs.take i).map (fun p => kV p.1) ++ [kV kvs[i].1] := by rw [List.take_succ, List.getElem?_eq_getElem hlt, List.map_append]; rfl
    refine wpAny_bind (wpAny_updateSeq e rfl (wpAny_pure ⟨plainId_quiet PySem.F.plain_extend_loop _, ?_⟩) (by rw [List.size_toArray]; omega) (by show (its.toArray.push key).size ≤ sizeLine + 1; rw [Array.size_push, List.size_toArray]; omega))
    have I3 := I1.lset (f := (·.push key)) (its' := its ++ [key]) (t' := s.toks) hl e (by simp) (r2.append (.cons (relV_key (show keyIs kvs[i].1 key = true from hkey)) .nil)) (by rw [List.length_append, List.length_singleton, List.length_map, List.length_take]; omega)
    rw [← et] at I3
    have hit2 : (upd H S (.lst ((kvs.take (i + 1)).map fun p => kV p.1))) it = none := by rw [upd_ne hS.symm]; exact f0
    refine ih (i + 1) _ _ (by omega) hlt I3 ⟨hit2, f1, f2, f3, f4, f5⟩ (by rw [upd_ne hSd.symm]; exact hd) upd_same ?_ (fun s' J => hR s' (by rw [upd_upd] at J; exact J))
    show (h'.update S _).IsKeyIter it d (i + 1) kvs.length _
    rw [hlv]
    exact st'.at fun o e => (Heap.get?_update_other _ _ hS).trans e
end
end Own
set_option Elab.async false
set_option linter.all false
set_option maxRecDepth 100000
set_option maxHeartbeats 2000000
/-! list(o), o an instance whose own __iter__ returns iter(d) -/
namespace Own
open PySem PySem.Spec PyProof.Rows L2
/-- a class that tells no length -/
theorem hint_no {M : Model} {A : Around} {E : Value → Shared → Prop} {s : Shared} {Q : Bool → Shared → Prop} {K : PySem.W.Frag} {a C : Addr} {ox : Obj} {od : Option Obj} (n1 : PySem.W.findIn K (.ref C) "__len__" = some none) (n2 : PySem.W.findIn K (.ref C) "__length_hint__" = some none)
    (hK : K.In s.heap) (J : PySem.W.InstAt s.heap a ox C od) (q : Q true s) : wpAny M A (Builtin.List.listLengthHint (.ref a)) Q E s := by
  have l1 := PySem.W.looks_findIn (M := M) hK n1
  have l2 := PySem.W.looks_findIn (M := M) hK n2
  unfold Builtin.List.listLengthHint
  refine wpAny_bind (wpAny_bind (J.type.here (l1.here ?_)))
  refine PySem.W.KFB.if_not (by rfl) (PySem.W.KFB.if_not (by rfl) ?_)
  exact wpAny_bind (wpAny_bind (J.type.here (l2.here (wpAny_pure q))))
def ListTold (C a S : Addr) (Q : VK) (m : Nat) : VK := fun v H2 => ∃ it d od kvs, v = V.ref it ∧ H2 it = some (KiO d od it) ∧ H2 d = some (.frz od (.dK kvs)) ∧ H2 S = some (.lst []) ∧ m ≤ it ∧ (∃ dx fs, H2 a = some (.ins C dx fs)) ∧ Q (.ref S) (upd (ItX.dropH H2 it) S (.lst (kvs.map fun p => kV p.1)))
def rListIt (C : Addr) (sp : Nat → Sp) (E : XK) : List V → Hp → VK → Prop := fun xs H Q => ∃ a dx fs, xs = [V.ref a] ∧ H a = some (.ins C dx fs) ∧ ∀ S, H S = none → ∀ m, sp m [.ref a] (upd H S (.lst [])) (ListTold C a S Q m) E
section
variable {X : Cx} {CX : CXT} {C f : Addr} {fd : FuncData} {ps : List Str} {n : Nat} {sp : Nat → Sp} {E : XK}
theorem list_fill {pins : List (Addr × Obj)} {σ : L2.St} {A : Around} {Rs : Result → Shared → Prop} {S a dx : Addr} {fs : List (Str × V)} {H : Hp} {s : Shared} {Q : VK}
    (F : ∀ base, FnOk X.prog X.w X.K X.mg base CX n f fd ps (sp base.objs.size)) (hb : L2.Binds X.K fd ps []) (hx : Passes CX X E) (hr : Room n A.in1) (hfr : A.in1.frames = X.A.frames) (hh : A.handled = none)
    (hs : PySem.W.findIn X.K (.ref C) "__iter__" = some (some (.ref f))) (hf : PySem.W.isFn X.K (.ref f) = true) (n1 : PySem.W.findIn X.K (.ref C) "__len__" = some none) (n2 : PySem.W.findIn X.K (.ref C) "__length_hint__" = some none)
    (I : L2.Inv X pins σ H s) (ha : H a = some (.ins C dx fs)) (hS : H S = some (.lst [])) (hsp : ∀ m, sp m [.ref a] H (ListTold C a S Q m) E)
    (done : ∀ H' s', L2.Inv X pins σ H' s' → Q (.ref S) H' → Rs (.ok (.ret .none)) s') (bad : ∀ e s', X.xe e s' → Rs (.error e) s') :
    wpAny (model X.prog X.w) A.in1 (Builtin.List.listExtendWith (.ref S) (.ref a) .none)
      (fun fin s' => match fin with | .done g => Rs (.ok g) s' | .again c' => c'.quiet = true ∧ codeAny (model X.prog X.w) A c' Rs s') (fun e s' => Rs (.error e) s') s := by
  have neS : S ≠ a := ne_of hS ha (fun z => nomatch z)
  obtain ⟨mA, J, _⟩ := ins_get I.hok ha
  obtain ⟨od0, J, _⟩ := J.look
  have t1 : Builtin.List.listSameRef (.ref S) (.ref a) = false := by simp [Builtin.List.listSameRef, neS]
  have t2 : (Value.ref C == Value.type "list" || Value.ref C == Value.type "tuple") = false := rfl
  unfold Builtin.List.listExtendWith
  refine wpAny_bind (J.type.here ?_)
  rw [t1, Bool.false_or]
  simp only [t2, Bool.false_eq_true, if_false]
  refine wpAny_bind (wpAny_mono (own_it F hb hx hr hfr hs hf (fun m v H2 ⟨it, d, od, kvs, e1, e2, _⟩ => ⟨it, d, od, e1, e2⟩) I ha hsp) (fun u s2 h2 => ?_) bad)
  obtain ⟨it0, H2, eu, I2, it, d, od, kvs, e0, hi, hd, hS2, hz, ⟨dx2, fs2, ha2⟩, hQ⟩ := h2
  subst eu
  have e9 : it = it0 := by cases e0; rfl
  subst e9
  obtain ⟨mB, J2, _⟩ := ins_get I2.hok ha2
  obtain ⟨od2, J2, _⟩ := J2.look
  refine wpAny_bind (wpAny_holding (hint_no n1 n2 I2.kIn J2 ?_))
  obtain ⟨es, ep, hod, hk⟩ := (show ObjOk X.prog X.w H2 s2.heap it (KiO d od it) from I2.hok it _ hi).1
  obtain ⟨_, _, _, es2, ep2, vs, hdt, hsz, kv, hm⟩ := I2.frzK hd
  obtain ⟨e1, e2⟩ := dict_ep hod hdt
  subst e1
  have nSi : S ≠ it := fun e => by rw [e, hi] at hS2; cases hS2
  have nSd : S ≠ d := fun e => by rw [e, hd] at hS2; cases hS2
  have ndi : d ≠ it := fun e => by rw [e, hi] at hd; cases hd
  have hzk : kvs.length ≤ sizeLine := (dk_rd I2.hok (.inr ⟨od, hd⟩)).1
  have I3 := ItX.inv_drop I2 hi
  have fp := ItX.inv_fp I2 hi (Nat.le_trans I.sz hz)
  have hS3 : ItX.dropH H2 it S = some (.lst []) := (ItX.dropH_ne nSi).trans hS2
  have hd3 : ItX.dropH H2 it d = some (.frz od (.dK kvs)) := (ItX.dropH_ne ndi).trans hd
  generalize ItX.dropH H2 it = H3 at I3 fp hS3 hd3 hQ
  have go : ∀ (s' : Shared), L2.Inv X pins σ H3 s' → s'.heap.IsKeyIter it d 0 kvs.length ep → codeAny (model X.prog X.w) A (.builtin "list.extend.loop" ⟨[.ref S, .ref it, .none], []⟩) Rs s' := fun s' I' st' =>
    key_loop hh hod hzk nSi nSd _ 0 H3 s' rfl (Nat.zero_le _) I' fp hd3 hS3 st' fun s'' I'' => done _ s'' I'' hQ
  rw [hsz] at hk
  obtain ⟨zz, its, cc, r3, ln3, e3⟩ := I3.lstM hS3
  cases r3
  refine wpAny_ite_split (fun _ => ?_) (fun _ => wpAny_pure ⟨plainId_quiet PySem.F.plain_extend_loop _, go s2 I3 hk⟩)
  refine wpAny_bind (wpAny_rule (wpAny_bind ?_))
  show wpAny _ _ (updateSeq S (·.push .none) >>= fun _ => updateSeq S (·.pop)) _ _ _
  refine wpAny_bind (wpAny_updateSeq e3 rfl ?_)
  have J1 := I3.lset (f := (·.push Value.none)) (its' := [Value.none]) (ys := [V.non]) (t' := s2.toks) hS3 e3 (by simp) (.cons rfl .nil) (by rw [List.length_singleton, sizeLine_eq]; decide)
  obtain ⟨z4, its4, c4, r4, ln4, e4⟩ := J1.lstM upd_same
  obtain ⟨u4, rfl, ru4⟩ := r4.one
  refine wpAny_updateSeq e4 rfl (wpAny_pure ⟨plainId_quiet PySem.F.plain_extend_loop _, go _ ?_ ?_⟩) (by show 1 ≤ sizeLine; rw [sizeLine_eq]; decide) (by show 0 ≤ sizeLine + 1; exact Nat.zero_le _)
  · have J2 := J1.lset (f := (·.pop)) (its := [u4]) (its' := []) (ys := []) (t' := s2.toks) upd_same e4 (by rfl) .nil (Nat.zero_le _)
    rw [upd_upd, show upd H3 S (.lst []) = H3 from by
      funext b
      by_cases hb : b = S
      · rw [hb, upd_same, hS3]
      · rw [upd_ne hb]] at J2
    exact J2
  · exact hk.at fun o e => (Heap.get?_update_other _ _ nSi).trans ((Heap.get?_update_other _ _ nSi).trans e)
theorem call_listIt (F : ∀ base, FnOk X.prog X.w X.K X.mg base CX n f fd ps (sp base.objs.size)) (hb : L2.Binds X.K fd ps []) (hx : Passes CX X E) (hc : X.calm = true) (hr : Room (n + 2) X.A)
    (hs : PySem.W.findIn X.K (.ref C) "__iter__" = some (some (.ref f))) (hf : PySem.W.isFn X.K (.ref f) = true) (n1 : PySem.W.findIn X.K (.ref C) "__len__" = some none) (n2 : PySem.W.findIn X.K (.ref C) "__length_hint__" = some none) :
    CallR X (.type "list") (rListIt C sp E) := by
  intro pins s σ H xs us Q I rv ⟨a, dx, fs, ex, ha, hq⟩
  subst ex
  obtain rfl := Vals.ref1 rv
  refine callType_codes (Q₁ := fun ob s1 => ob = .ref s.heap.objs.size ∧ s1 = { s with heap := s.heap.push { cls := .type "list", data := .seq #[] } }) PySem.F.called_list (PySem.F.typeCall_list_1 _) PySem.F.entry_list_init
    (code_list_new _ ⟨rfl, rfl⟩) fun ob s1 h1 => ?_
  obtain ⟨z1, z2⟩ := h1
  subst z1
  subst z2
  have hS : (s.heap.push { cls := .type "list", data := .seq #[] }).get? s.heap.objs.size = some { cls := .type "list", data := .seq #[] } := Heap.get?_push_size _ rfl
  have fr : H s.heap.objs.size = none := I.hok.fresh (Nat.le_refl _)
  refine ⟨⟨_, hS, rfl⟩, PySem.F.args_list_init_2 _ _, ?_⟩
  have I1 : L2.Inv X pins σ (upd H s.heap.objs.size (.lst [])) { s with heap := s.heap.push { cls := .type "list", data := .seq #[] } } := I.lnew (its := []) (t' := s.toks) .nil (Nat.zero_le _)
  show wpAny _ _ (Builtin.List.listItems (.ref s.heap.objs.size) >>= fun old => Builtin.List.listUpdate (.ref s.heap.objs.size) (fun _ => #[]) >>= fun _ => letGo old.toList.reverse >>= fun _ => Builtin.List.listExtendWith (.ref s.heap.objs.size) (.ref a) .none) _ _ _
  refine wpAny_bind ?_
  unfold Builtin.List.listItems
  refine wpAny_bind (wpAny_seqItems hS rfl (wpAny_pure ?_))
  refine wpAny_bind ?_
  show wpAny _ _ (updateSeq s.heap.objs.size (fun _ => #[])) _ _ _
  refine wpAny_updateSeq hS rfl (wpAny_bind (wpAny_letGo ?_))
  have I2 := I1.lset (f := fun _ => #[]) (its := []) (its' := []) (ys := []) (t' := s.toks) upd_same hS rfl .nil (Nat.zero_le _)
  rw [upd_upd] at I2
  exact list_fill (A := X.A.in1) (Rs := wants (fun r s2 => r = .none ∧ EP X pins σ Q (.ref s.heap.objs.size) s2) X.xe) F hb hx (Room.in1 (Room.in1 hr)) rfl (I.ok.hd hc) hs hf n1 n2 I2 (by rw [upd_ne (ne_of_none ha fr)]; exact ha) upd_same (hq _ fr)
    (fun H' s' I' q => ⟨rfl, .ref _, H', I', rfl, q⟩) fun e s' he => he
end
end Own
set_option Elab.async false
set_option linter.all false
set_option maxRecDepth 100000
set_option maxHeartbeats 2000000
/-! list(o), o an instance whose own __iter__ returns iter(d), and whose own __len__ tells a number -/
namespace Own
open PySem PySem.Spec PyProof.Rows L2
section
variable {X : Cx} {CX : CXT} {C f g : Addr} {fd gd : FuncData} {ps qs : List Str} {n m : Nat} {sp : Nat → Sp} {sl : Sp} {E : XK}
theorem own_call1 (F : FnOk X.prog X.w X.K X.mg X.base CX0 m g gd qs sl) (hb : L2.Binds X.K gd qs []) {A : Around} (hr : Room m A) (hfr : A.frames = X.A.frames)
    {pins : List (Addr × Obj)} {s : Shared} {σ : L2.St} {H : Hp} {x : V} {u : Value} {R : V → Hp → Prop} (I : L2.Inv X pins σ H s) (rx : L2.RelV x u) (hsp : sl [x] H R E) :
    wpAny (model X.prog X.w) A (call (.ref g) [u]) (fun w s' => ∃ z H', L2.RelV z w ∧ L2.Inv X pins σ H' s' ∧ R z H') (fun _ _ => False) s := by
  have e0 : Env0 X.prog X.w X.K X.mg X.base A X.stack s H := by
    have e := I.env0
    exact ⟨by rw [hfr]; exact e.frames, e.mod, e.bs, e.bsz, e.funs, e.frf, e.hok, e.bare⟩
  have hl := F.len _ _ _ _ hsp
  have r2 : L2.Vals [x] [u] := .cons rx .nil
  refine wpAny_call (codeAny_mono (F.run A X.stack s H ⟨[u], []⟩ [u] [x] R E hr e0 (by
    have := hb s [u] I.kIn (by simpa using hl)
    simpa using this) r2 hsp) fun r s' hq => ?_)
  cases r with
  | error e => exact False.elim hq
  | ok fl =>
    cases fl with
    | ret w =>
      obtain ⟨z, H', I', rz, q⟩ := I.after hq
      exact ⟨z, H', rz, I', q⟩
    | next => exact False.elim hq
    | brk => exact False.elim hq
    | cont => exact False.elim hq
/-- what an own __len__ has to tell -/
def LenTold (H : Hp) : VK := fun v H' => ∃ k : Nat, v = .int k ∧ k ≤ sizeLine ∧ H' = H
theorem len_own (F : FnOk X.prog X.w X.K X.mg X.base CX0 m g gd qs sl) (hb : L2.Binds X.K gd qs []) {A : Around} (hr : Room (m + 1) A) (hfr : A.frames = X.A.frames)
    (hs : PySem.W.findIn X.K (.ref C) "__len__" = some (some (.ref g))) (hf : PySem.W.isFn X.K (.ref g) = true) {pins : List (Addr × Obj)} {s : Shared} {σ : L2.St} {H : Hp} {a dx : Addr} {fs : List (Str × V)} (I : L2.Inv X pins σ H s) (ha : H a = some (.ins C dx fs)) (hsp : sl [.ref a] H (LenTold H) E) :
    wpAny (model X.prog X.w) A (call (.builtin "len") [.ref a]) (fun r s' => ∃ (k : Nat) (t : Tok), k ≤ sizeLine ∧ r = .int k t ∧ L2.Inv X pins σ H s') (fun _ _ => False) s := by
  obtain ⟨mA, J, _⟩ := ins_get I.hok ha
  obtain ⟨od0, J, _⟩ := J.look
  refine Calls.call_function_entry kind_len plain_len entry_len (args_len1 _) ?_
  unfold Builtin.«len»
  refine wpAny_bind (m := oneArg "len" _) (wpAny_pure ?_)
  refine wpAny_bind (m := callSpecial? (.ref a) (PySem.Str.ofString "__len__")) ?_
  unfold callSpecial? specialOf
  refine wpAny_bind (wpAny_bind (J.type.here ((PySem.W.looks_findIn I.kIn hs).here ?_)))
  refine wpAny_holding (wpAny_bind ((PySem.W.bind_fn I.kIn _ (beq_iff_eq.mp hf)).here ?_))
  refine wpAny_bind (wpAny_mono (own_call1 (A := A.in1) F hb (Room.in1 hr) hfr I (x := .ref a) rfl hsp) (fun w s' h => ?_) fun _ _ h => h)
  obtain ⟨z, H', rz, I', k, ez, hk, eH⟩ := h
  subst ez
  subst eH
  obtain ⟨t, rfl⟩ := (show ∃ t, w = Value.int k t from rz)
  have hz : sizeLine = 16777216 := sizeLine_eq
  refine wpAny_pure (wpAny_bind (wpAny_holding (wpAny_pure ?_)))
  refine wpAny_bind (wpAny_letGo ?_)
  show wpAny _ _ (if ((k : Nat) : Int) < 0 then _ else _) _ _ _
  rw [if_neg (by omega)]
  show wpAny _ _ (if ((k : Nat) : Int) ≥ 2 ^ 63 then _ else _) _ _ _
  rw [if_neg (by omega)]
  exact wpAny_bind (wpAny_mkInt (wpAny_pure ⟨_, rfl, _, _, hk, rfl, I'.tok _⟩))
theorem hint_own (F : FnOk X.prog X.w X.K X.mg X.base CX0 m g gd qs sl) (hb : L2.Binds X.K gd qs []) {A : Around} (hr : Room (m + 1) A) (hfr : A.frames = X.A.frames)
    (hs : PySem.W.findIn X.K (.ref C) "__len__" = some (some (.ref g))) (hf : PySem.W.isFn X.K (.ref g) = true) {pins : List (Addr × Obj)} {s : Shared} {σ : L2.St} {H : Hp} {a dx : Addr} {fs : List (Str × V)} (I : L2.Inv X pins σ H s) (ha : H a = some (.ins C dx fs)) (hsp : sl [.ref a] H (LenTold H) E)
    {Q : Bool → Shared → Prop} {Eh : Value → Shared → Prop} (q : ∀ b s', L2.Inv X pins σ H s' → Q b s') : wpAny (model X.prog X.w) A (Builtin.List.listLengthHint (.ref a)) Q Eh s := by
  obtain ⟨mA, J, _⟩ := ins_get I.hok ha
  obtain ⟨od0, J, _⟩ := J.look
  have l1 := PySem.W.looks_findIn (M := model X.prog X.w) I.kIn hs
  unfold Builtin.List.listLengthHint
  refine wpAny_bind (wpAny_bind (J.type.here (l1.here ?_)))
  refine PySem.W.KFB.if_not (by rfl) ?_
  refine wpAny_bind (wpAny_rule (wpAny_bind (wpAny_attempt (wpAny_mono (len_own F hb hr hfr hs hf I ha hsp) (fun r s' h => ?_) fun e s' h => h.elim))))
  obtain ⟨k, t, hk, rfl, I'⟩ := h
  have hz : sizeLine = 16777216 := sizeLine_eq
  refine wpAny_bind (wpAny_pure ?_)
  refine PySem.W.KFB.if_not (by show decide _ = false; exact decide_eq_false (by rw [Int.toNat_natCast]; omega)) ?_
  exact wpAny_pure (q _ _ I')
def ListToldL (C a S : Addr) (sl : Sp) (E : XK) (Q : VK) (m : Nat) : VK := fun v H2 => ∃ it d od kvs, v = V.ref it ∧ H2 it = some (KiO d od it) ∧ H2 d = some (.frz od (.dK kvs)) ∧ H2 S = some (.lst []) ∧ m ≤ it ∧ (∃ dx fs, H2 a = some (.ins C dx fs)) ∧ sl [V.ref a] H2 (LenTold H2) E ∧ Q (.ref S) (upd (ItX.dropH H2 it) S (.lst (kvs.map fun p => kV p.1)))
def rListIL (C : Addr) (sp : Nat → Sp) (sl : Sp) (E : XK) : List V → Hp → VK → Prop := fun xs H Q => ∃ a dx fs, xs = [V.ref a] ∧ H a = some (.ins C dx fs) ∧ ∀ S, H S = none → ∀ m, sp m [.ref a] (upd H S (.lst [])) (ListToldL C a S sl E Q m) E
theorem list_fillL {pins : List (Addr × Obj)} {σ : L2.St} {A : Around} {Rs : Result → Shared → Prop} {S a dx : Addr} {fs : List (Str × V)} {H : Hp} {s : Shared} {Q : VK}
    (F : ∀ base, FnOk X.prog X.w X.K X.mg base CX n f fd ps (sp base.objs.size)) (hb : L2.Binds X.K fd ps []) (hx : Passes CX X E) (hr : Room n A.in1) (hrm : Room (m + 1) A.in1) (hfr : A.in1.frames = X.A.frames) (hh : A.handled = none)
    (hs : PySem.W.findIn X.K (.ref C) "__iter__" = some (some (.ref f))) (hf : PySem.W.isFn X.K (.ref f) = true) (G : FnOk X.prog X.w X.K X.mg X.base CX0 m g gd qs sl) (hgb : L2.Binds X.K gd qs []) (n1 : PySem.W.findIn X.K (.ref C) "__len__" = some (some (.ref g))) (n2 : PySem.W.isFn X.K (.ref g) = true)
    (I : L2.Inv X pins σ H s) (ha : H a = some (.ins C dx fs)) (hS : H S = some (.lst [])) (hsp : ∀ m, sp m [.ref a] H (ListToldL C a S sl E Q m) E)
    (done : ∀ H' s', L2.Inv X pins σ H' s' → Q (.ref S) H' → Rs (.ok (.ret .none)) s') (bad : ∀ e s', X.xe e s' → Rs (.error e) s') :
    wpAny (model X.prog X.w) A.in1 (Builtin.List.listExtendWith (.ref S) (.ref a) .none)
      (fun fin s' => match fin with | .done g => Rs (.ok g) s' | .again c' => c'.quiet = true ∧ codeAny (model X.prog X.w) A c' Rs s') (fun e s' => Rs (.error e) s') s := by
  have neS : S ≠ a := ne_of hS ha (fun z => nomatch z)
  obtain ⟨mA, J, _⟩ := ins_get I.hok ha
  obtain ⟨od0, J, _⟩ := J.look
  have t1 : Builtin.List.listSameRef (.ref S) (.ref a) = false := by simp [Builtin.List.listSameRef, neS]
  have t2 : (Value.ref C == Value.type "list" || Value.ref C == Value.type "tuple") = false := rfl
  unfold Builtin.List.listExtendWith
  refine wpAny_bind (J.type.here ?_)
  rw [t1, Bool.false_or]
  simp only [t2, Bool.false_eq_true, if_false]
  refine wpAny_bind (wpAny_mono (own_it F hb hx hr hfr hs hf (fun m v H2 ⟨it, d, od, kvs, e1, e2, _⟩ => ⟨it, d, od, e1, e2⟩) I ha hsp) (fun u s2 h2 => ?_) bad)
  obtain ⟨it0, H2, eu, I2, it, d, od, kvs, e0, hi, hd, hS2, hz, ⟨dx2, fs2, ha2⟩, hL, hQ⟩ := h2
  subst eu
  have e9 : it = it0 := by cases e0; rfl
  subst e9
  obtain ⟨mB, J2, _⟩ := ins_get I2.hok ha2
  obtain ⟨od2, J2, _⟩ := J2.look
  refine wpAny_bind (wpAny_holding (hint_own G hgb hrm hfr n1 n2 I2 ha2 hL fun b9 s2 I2 => ?_))
  obtain ⟨es, ep, hod, hk⟩ := (show ObjOk X.prog X.w H2 s2.heap it (KiO d od it) from I2.hok it _ hi).1
  obtain ⟨_, _, _, es2, ep2, vs, hdt, hsz, kv, hm⟩ := I2.frzK hd
  obtain ⟨e1, e2⟩ := dict_ep hod hdt
  subst e1
  have nSi : S ≠ it := fun e => by rw [e, hi] at hS2; cases hS2
  have nSd : S ≠ d := fun e => by rw [e, hd] at hS2; cases hS2
  have ndi : d ≠ it := fun e => by rw [e, hi] at hd; cases hd
  have hzk : kvs.length ≤ sizeLine := (dk_rd I2.hok (.inr ⟨od, hd⟩)).1
  have I3 := ItX.inv_drop I2 hi
  have fp := ItX.inv_fp I2 hi (Nat.le_trans I.sz hz)
  have hS3 : ItX.dropH H2 it S = some (.lst []) := (ItX.dropH_ne nSi).trans hS2
  have hd3 : ItX.dropH H2 it d = some (.frz od (.dK kvs)) := (ItX.dropH_ne ndi).trans hd
  generalize ItX.dropH H2 it = H3 at I3 fp hS3 hd3 hQ
  have go : ∀ (s' : Shared), L2.Inv X pins σ H3 s' → s'.heap.IsKeyIter it d 0 kvs.length ep → codeAny (model X.prog X.w) A (.builtin "list.extend.loop" ⟨[.ref S, .ref it, .none], []⟩) Rs s' := fun s' I' st' =>
    key_loop hh hod hzk nSi nSd _ 0 H3 s' rfl (Nat.zero_le _) I' fp hd3 hS3 st' fun s'' I'' => done _ s'' I'' hQ
  rw [hsz] at hk
  obtain ⟨zz, its, cc, r3, ln3, e3⟩ := I3.lstM hS3
  cases r3
  refine wpAny_ite_split (fun _ => ?_) (fun _ => wpAny_pure ⟨plainId_quiet PySem.F.plain_extend_loop _, go s2 I3 hk⟩)
  refine wpAny_bind (wpAny_rule (wpAny_bind ?_))
  show wpAny _ _ (updateSeq S (·.push .none) >>= fun _ => updateSeq S (·.pop)) _ _ _
  refine wpAny_bind (wpAny_updateSeq e3 rfl ?_)
  have J1 := I3.lset (f := (·.push Value.none)) (its' := [Value.none]) (ys := [V.non]) (t' := s2.toks) hS3 e3 (by simp) (.cons rfl .nil) (by rw [List.length_singleton, sizeLine_eq]; decide)
  obtain ⟨z4, its4, c4, r4, ln4, e4⟩ := J1.lstM upd_same
  obtain ⟨u4, rfl, ru4⟩ := r4.one
  refine wpAny_updateSeq e4 rfl (wpAny_pure ⟨plainId_quiet PySem.F.plain_extend_loop _, go _ ?_ ?_⟩) (by show 1 ≤ sizeLine; rw [sizeLine_eq]; decide) (by show 0 ≤ sizeLine + 1; exact Nat.zero_le _)
  · have J2 := J1.lset (f := (·.pop)) (its := [u4]) (its' := []) (ys := []) (t' := s2.toks) upd_same e4 (by rfl) .nil (Nat.zero_le _)
    rw [upd_upd, show upd H3 S (.lst []) = H3 from by
      funext b
      by_cases hb : b = S
      · rw [hb, upd_same, hS3]
      · rw [upd_ne hb]] at J2
    exact J2
  · exact hk.at fun o e => (Heap.get?_update_other _ _ nSi).trans ((Heap.get?_update_other _ _ nSi).trans e)
theorem call_listIL (F : ∀ base, FnOk X.prog X.w X.K X.mg base CX n f fd ps (sp base.objs.size)) (hb : L2.Binds X.K fd ps []) (hx : Passes CX X E) (hc : X.calm = true) (hr : Room (n + 2) X.A) (hrm : Room (m + 3) X.A)
    (hs : PySem.W.findIn X.K (.ref C) "__iter__" = some (some (.ref f))) (hf : PySem.W.isFn X.K (.ref f) = true) (G : FnOk X.prog X.w X.K X.mg X.base CX0 m g gd qs sl) (hgb : L2.Binds X.K gd qs []) (n1 : PySem.W.findIn X.K (.ref C) "__len__" = some (some (.ref g))) (n2 : PySem.W.isFn X.K (.ref g) = true) :
    CallR X (.type "list") (rListIL C sp sl E) := by
  intro pins s σ H xs us Q I rv ⟨a, dx, fs, ex, ha, hq⟩
  subst ex
  obtain rfl := Vals.ref1 rv
  refine callType_codes (Q₁ := fun ob s1 => ob = .ref s.heap.objs.size ∧ s1 = { s with heap := s.heap.push { cls := .type "list", data := .seq #[] } }) PySem.F.called_list (PySem.F.typeCall_list_1 _) PySem.F.entry_list_init
    (code_list_new _ ⟨rfl, rfl⟩) fun ob s1 h1 => ?_
  obtain ⟨z1, z2⟩ := h1
  subst z1
  subst z2
  have hS : (s.heap.push { cls := .type "list", data := .seq #[] }).get? s.heap.objs.size = some { cls := .type "list", data := .seq #[] } := Heap.get?_push_size _ rfl
  have fr : H s.heap.objs.size = none := I.hok.fresh (Nat.le_refl _)
  refine ⟨⟨_, hS, rfl⟩, PySem.F.args_list_init_2 _ _, ?_⟩
  have I1 : L2.Inv X pins σ (upd H s.heap.objs.size (.lst [])) { s with heap := s.heap.push { cls := .type "list", data := .seq #[] } } := I.lnew (its := []) (t' := s.toks) .nil (Nat.zero_le _)
  show wpAny _ _ (Builtin.List.listItems (.ref s.heap.objs.size) >>= fun old => Builtin.List.listUpdate (.ref s.heap.objs.size) (fun _ => #[]) >>= fun _ => letGo old.toList.reverse >>= fun _ => Builtin.List.listExtendWith (.ref s.heap.objs.size) (.ref a) .none) _ _ _
  refine wpAny_bind ?_
  unfold Builtin.List.listItems
  refine wpAny_bind (wpAny_seqItems hS rfl (wpAny_pure ?_))
  refine wpAny_bind ?_
  show wpAny _ _ (updateSeq s.heap.objs.size (fun _ => #[])) _ _ _
  refine wpAny_updateSeq hS rfl (wpAny_bind (wpAny_letGo ?_))
  have I2 := I1.lset (f := fun _ => #[]) (its := []) (its' := []) (ys := []) (t' := s.toks) upd_same hS rfl .nil (Nat.zero_le _)
  rw [upd_upd] at I2
  exact list_fillL (A := X.A.in1) (Rs := wants (fun r s2 => r = .none ∧ EP X pins σ Q (.ref s.heap.objs.size) s2) X.xe) F hb hx (Room.in1 (Room.in1 hr)) (Room.in1 (Room.in1 hrm)) rfl (I.ok.hd hc) hs hf G hgb n1 n2 I2 (by rw [upd_ne (ne_of_none ha fr)]; exact ha) upd_same (hq _ fr)
    (fun H' s' I' q => ⟨rfl, .ref _, H', I', rfl, q⟩) fun e s' he => he
/-- len of a dict, locked or not -/
theorem call_lenRd : CallR X (.builtin "len") (fun xs H Q => ∃ a kvs, xs = [V.ref a] ∧ Rd H a (.dK kvs) ∧ Q (.int kvs.length) H) := by
  rintro pins s σ H xs us Q I r ⟨a, kvs, rfl, ha, q⟩
  obtain ⟨u, rfl, ru⟩ := vals1 r
  cases ru
  exact d_len I ha fun t s' I' => ⟨.int kvs.length, H, I', ⟨t, rfl⟩, q⟩
/-- rules for what stands in a comprehension, K written -/
theorem ixTupOf {K : PySem.W.Frag} (h : X.K = K) : IxR X (rIxT K) := h ▸ ix_tup
theorem fldOf {K : PySem.W.Frag} (h : X.K = K) {e : Expr} {ta : TE} {f : Str} {pos : Pos} (he : PE X e ta) (hb : attributeBase e f X.env (eval e X.env) = eval e X.env) : PE X (.Attribute e f pos) (tFld K ta f) := h ▸ pe_fld he hb
theorem notInSeqOf {K : PySem.W.Frag} (h : X.K = K) : OpR X (compareOp .NotIn) (rIn K true) := h ▸ op_notIn_seq
end
end Own
set_option Elab.async false
set_option linter.all false
set_option maxRecDepth 100000
set_option maxHeartbeats 2000000
/-! a dict that has texts and tuples among its keys -/
namespace Own
open PySem PySem.Spec PyProof.Rows L2
abbrev MK := Str ⊕ List L2.Key
section
variable (P : Program) (w : World)
def mIs (h : Heap) : MK → Value → Prop
  | .inl x, v => ∃ t, v = .str x t
  | .inr ks, v => ∃ a, v = .ref a ∧ (tupleKind (mixKind P w)).is h ks a
def mHash : MK → Int
  | .inl x => (mixKind P w).hash (.inr x)
  | .inr ks => (tupleKind (mixKind P w)).hash ks
def mDraws : MK → Nat
  | .inl _ => 1
  | .inr ks => ks.length + 1
def mEnt (x : MK × Value × Value) : DictEntry := ⟨mHash P w x.1, x.2.1, x.2.2⟩
end
section
variable {P : Program} {w : World} {A : Around} {E : Value → Shared → Prop} {s : Shared} {h : Heap}
theorem mix_str {x : Str} {t : Tok} : (mixKind P w).is (.inr x) (.str x t) = true := kV_is (k := .inr x) (u := .str x t) ⟨t, rfl⟩
theorem mIs_inj {x y : MK} {v : Value} (a : mIs P w h x v) (b : mIs P w h y v) : x = y := by
  cases x with
  | inl x =>
    obtain ⟨t, rfl⟩ := a
    cases y with
    | inl y => obtain ⟨t2, e⟩ := b; injection e with e1 _; rw [e1]
    | inr ys => obtain ⟨a2, e, _⟩ := b; cases e
  | inr xs =>
    obtain ⟨a1, rfl, ha⟩ := a
    cases y with
    | inl y => obtain ⟨t2, e⟩ := b; cases e
    | inr ys =>
      obtain ⟨a2, e, hb⟩ := b
      cases e
      rw [(tupleKind (mixKind P w)).inj ha hb]
theorem mIs_keeps {h' : Heap} {k : MK} {v : Value} {d : Addr} {o : Obj} {es ep} (a : mIs P w h k v) (ho : h.get? d = some o) (hd : o.data = .dict es ep) (hs : Heap.SameBut d h h') : mIs P w h' k v := by
  cases k with
  | inl x => exact a
  | inr ks =>
    obtain ⟨b, rfl, hb⟩ := a
    exact ⟨b, rfl, (tupleKind (mixKind P w)).keeps hb ho hd hs⟩
theorem m_hash {k : MK} {v : Value} {Q : Int → Shared → Prop} (hu : A.units < cLine) (hk : mIs P w s.heap k v) (q : Q (mHash P w k) { s with toks := s.toks + mDraws k }) : wpAny (model P w) A (pyHash v) Q E s := by
  cases k with
  | inl x =>
    obtain ⟨t, rfl⟩ := hk
    exact (mixKind P w).pyHash mix_str q
  | inr ks =>
    obtain ⟨b, rfl, hb⟩ := hk
    exact (tupleKind (mixKind P w)).pyHash hu hb q
theorem tup_at {ks : List L2.Key} {a : Addr} (hk : (tupleKind (mixKind P w)).is s.heap ks a) : ∃ items, s.heap.IsTuple a items := by
  obtain ⟨o, items, n, h1, h2, h3, _⟩ := (show IsTupleKey (mixKind P w) s.heap ks a from hk)
  exact ⟨items, o, h1, h2, n, h3⟩
theorem m_eq {x y : MK} {u v : Value} {Q : Bool → Shared → Prop} (hu : A.units < cLine) (hx : mIs P w s.heap x u) (hy : mIs P w s.heap y v) (q : Q (decide (x = y)) s) : wpAny (model P w) A (eqBool u v) Q E s := by
  cases x with
  | inl x =>
    obtain ⟨t, rfl⟩ := hx
    cases y with
    | inl y =>
      obtain ⟨t2, rfl⟩ := hy
      refine (mixKind P w).eqBool (a := .inr x) (b := .inr y) mix_str mix_str ?_
      have e : decide ((Sum.inr x : L2.Key) = .inr y) = decide ((Sum.inl x : MK) = .inl y) := by
        by_cases e : x = y
        · subst e; rw [decide_eq_true rfl, decide_eq_true rfl]
        · rw [decide_eq_false (fun z => e (Sum.inr.inj z)), decide_eq_false (fun z => e (Sum.inl.inj z))]
      rw [e]; exact q
    | inr ys =>
      obtain ⟨b, rfl, hb⟩ := hy
      obtain ⟨its, hi⟩ := tup_at hb
      exact SeqAt.EqAt.str_tuple x t hi hu P w E Q (by rw [decide_eq_false (fun z => nomatch z)] at q; exact q)
  | inr xs =>
    obtain ⟨a, rfl, ha⟩ := hx
    cases y with
    | inl y =>
      obtain ⟨t2, rfl⟩ := hy
      obtain ⟨its, hi⟩ := tup_at ha
      exact SeqAt.EqAt.tuple_str y t2 hi hu P w E Q (by rw [decide_eq_false (fun z => nomatch z)] at q; exact q)
    | inr ys =>
      obtain ⟨b, rfl, hb⟩ := hy
      refine (tupleKind (mixKind P w)).eqBool hu ha hb ?_
      have e : decide (xs = ys) = decide ((Sum.inr xs : MK) = .inr ys) := by
        by_cases e : xs = ys
        · subst e; rw [decide_eq_true rfl, decide_eq_true rfl]
        · rw [decide_eq_false e, decide_eq_false (fun z => e (Sum.inr.inj z))]
      rw [e]; exact q
theorem m_quiet {k : MK} {v : Value} {Q : Bool → Shared → Prop} (hk : mIs P w s.heap k v) (q : Q true s) : wpAny (model P w) A (eqIsQuiet 8 v) Q E s := by
  cases k with
  | inl x =>
    obtain ⟨t, rfl⟩ := hk
    exact wpAny_pure q
  | inr ks =>
    obtain ⟨b, rfl, hb⟩ := hk
    exact (tupleKind (mixKind P w)).quiet hb q
theorem m_tell {k : MK} {key : Value} {stored : List Value} {Q : Bool → Shared → Prop} (hkey : mIs P w s.heap k key) (hst : ∀ v ∈ stored, ∃ k', mIs P w s.heap k' v) (q : Q false s) : wpAny (model P w) A (tableMayTell key stored) Q E s := by
  unfold tableMayTell
  split
  · exact wpAny_pure q
  · refine wpAny_bind (m_quiet hkey ?_)
    simp only [Bool.not_true, Bool.false_eq_true, if_false]
    refine wpAny_bind ?_
    refine wpAny_forIn_list _ (fun rest r s' => s' = s ∧ r = (none, ()) ∧ ∀ v ∈ rest, ∃ k', mIs P w s.heap k' v) _ ?_ ?_ _ _ ⟨rfl, rfl, hst⟩
    · rintro x rest r s' ⟨rfl, rfl, hr⟩
      obtain ⟨k', hb⟩ := hr x List.mem_cons_self
      refine wpAny_bind (m_quiet hb ?_)
      simp only [Bool.not_true, Bool.false_eq_true, if_false]
      exact wpAny_pure ⟨rfl, rfl, fun v hv => hr v (List.mem_cons_of_mem _ hv)⟩
    · rintro r s' ⟨rfl, rfl, _⟩
      exact wpAny_pure q
/-! ### the entries -/
theorem ent_at {es : Array DictEntry} {xs : List (MK × Value × Value)} (he : es.toList = xs.map (mEnt P w)) (j : Nat) : es[j]? = (xs[j]?).map (mEnt P w) := by
  rw [← Array.getElem?_toList, he, List.getElem?_map]
theorem ent_size {es : Array DictEntry} {xs : List (MK × Value × Value)} (he : es.toList = xs.map (mEnt P w)) : es.size = xs.length := by
  rw [← Array.length_toList, he, List.length_map]
theorem ent_uniq {xs : List (MK × Value × Value)} (hn : (xs.map (·.1)).Nodup) {i j : Nat} {k : MK} {p q : Value × Value} (hi : xs[i]? = some (k, p)) (hj : xs[j]? = some (k, q)) : i = j := by
  have e1 : (xs.map (·.1))[i]? = some k := by rw [List.getElem?_map, hi]; rfl
  have e2 : (xs.map (·.1))[j]? = some k := by rw [List.getElem?_map, hj]; rfl
  obtain ⟨h1, z1⟩ := List.getElem?_eq_some_iff.mp e1
  obtain ⟨h2, z2⟩ := List.getElem?_eq_some_iff.mp e2
  exact (List.getElem_inj hn).mp (z1.trans z2.symm)
theorem ent_mem {es : Array DictEntry} {xs : List (MK × Value × Value)} (he : es.toList = xs.map (mEnt P w)) {e : DictEntry} (m : e ∈ es) : ∃ x ∈ xs, mEnt P w x = e := by
  have : e ∈ xs.map (mEnt P w) := he ▸ Array.mem_toList_iff.mpr m
  exact List.mem_map.mp this
/-- all texts: the library's own way -/
theorem find_strs {d : Addr} {o : Obj} {es ep} {xs : List (MK × Value × Value)} {x : Str} {t : Tok} {Q : Option Nat → Shared → Prop} (ho : s.heap.get? d = some o) (hd : o.data = .dict es ep) (he : es.toList = xs.map (mEnt P w)) (his : ∀ y ∈ xs, mIs P w s.heap y.1 y.2.1) (hs : ∀ y ∈ xs, ∃ z, y.1 = .inl z)
    (hnone : (∀ (j : Nat) (p : Value × Value), xs[j]? ≠ some (.inl x, p)) → Q none s) (hsome : ∀ (j : Nat) (p : Value × Value), xs[j]? = some (.inl x, p) → Q (some j) s) :
    wpAny (model P w) A (dictFind d (.str x t) (mHash P w (.inl x))) Q E s := by
  refine wpAny_dictFind_of (knd := mixKind P w) (k := .inr x) mix_str ho hd (fun e m => ?_) ?_
  · obtain ⟨y, hy, rfl⟩ := ent_mem he m
    obtain ⟨z, ez⟩ := hs y hy
    obtain ⟨k, v, u⟩ := y
    cases ez
    obtain ⟨t2, e2⟩ := his _ hy
    exact ⟨.inr z, by show (mixKind P w).is (.inr z) v = true; rw [show v = .str z t2 from e2]; exact mix_str, rfl⟩
  · have at_ : ∀ (j : Nat) (hj : j < es.size), ((mixKind P w).is (.inr x) es[j].key = true ↔ ∃ p, xs[j]? = some (.inl x, p)) := fun j hj => by
      have e1 := ent_at he j
      have hj2 : j < xs.length := by rw [← ent_size he]; exact hj
      rw [Array.getElem?_eq_getElem hj, List.getElem?_eq_getElem hj2] at e1
      have e2 : es[j] = mEnt P w xs[j] := Option.some.inj e1
      obtain ⟨z, ez⟩ := hs _ (List.getElem_mem hj2)
      obtain ⟨t2, e3⟩ := (show mIs P w s.heap (.inl z) xs[j].2.1 from ez ▸ his _ (List.getElem_mem hj2))
      rw [e2, List.getElem?_eq_getElem hj2]
      constructor
      · intro q
        have q2 : (mixKind P w).is (.inr x) (.str z t2) = true := by rw [← e3]; exact q
        have := (mixKind P w).inj _ _ _ q2 (mix_str (x := z) (t := t2))
        cases this
        exact ⟨xs[j].2, by rw [← ez]⟩
      · rintro ⟨p, q⟩
        have q3 : xs[j] = (.inl x, p) := Option.some.inj q
        have : z = x := by rw [q3] at ez; cases ez; rfl
        subst this
        show (mixKind P w).is (.inr z) xs[j].2.1 = true
        rw [e3]; exact mix_str
    cases hf : es.findIdx? (fun e => (mixKind P w).is (.inr x) e.key) with
    | none =>
      refine hnone fun j p hj => ?_
      have hj1 : j < es.size := by rw [ent_size he]; exact (List.getElem?_eq_some_iff.mp hj).1
      have := Array.findIdx?_eq_none_iff.mp hf es[j] (Array.getElem_mem hj1)
      rw [(at_ j hj1).mpr ⟨p, hj⟩] at this
      cases this
    | some i =>
      obtain ⟨hlt, hi, _⟩ := Array.findIdx?_eq_some_iff_getElem.mp hf
      obtain ⟨p, hp⟩ := (at_ i hlt).mp hi
      exact hsome i p hp
/-- where a lookup stands -/
def Hit (xs : List (MK × Value × Value)) (k : MK) (i : Nat) (hit : Option Nat) : Prop := (hit = none ∧ ∀ j p, j < i → xs[j]? ≠ some (k, p)) ∨ ∃ j p, hit = some j ∧ j < i ∧ xs[j]? = some (k, p)
theorem Hit.fresh {xs : List (MK × Value × Value)} {k : MK} {i : Nat} {hit : Option Nat} {p : Value × Value} (h : Hit xs k i hit) (hn : (xs.map (·.1)).Nodup) (hi : xs[i]? = some (k, p)) : hit = none := by
  rcases h with ⟨e, _⟩ | ⟨j, q, _, hj, e⟩
  · exact e
  · have := ent_uniq hn e hi
    omega
theorem Hit.pass {xs : List (MK × Value × Value)} {k k' : MK} {i : Nat} {hit : Option Nat} {p : Value × Value} (h : Hit xs k i hit) (hi : xs[i]? = some (k', p)) (ne : ¬ k' = k) : Hit xs k (i + 1) hit := by
  rcases h with ⟨e, hno⟩ | ⟨j, q, e, hj, e2⟩
  · refine .inl ⟨e, fun j q hj e2 => ?_⟩
    rcases Nat.lt_or_ge j i with lt | ge
    · exact hno j q lt e2
    · have : j = i := by omega
      subst this
      rw [hi] at e2
      exact ne (congrArg Prod.fst (Option.some.inj e2))
  · exact .inr ⟨j, q, e, by omega, e2⟩
theorem walk_step {es : Array DictEntry} {xs : List (MK × Value × Value)} {k : MK} {y : Nat} {rest : List Nat} {i : Nat} {hit : Option Nat} (he : es.toList = xs.map (mEnt P w)) (haskey : ∀ (j : Nat) (p : Value × Value), xs[j]? = some (k, p) → ((es[j]?.map (·.hash)) == some (mHash P w k)) = true)
    (hr : y :: rest = (List.range' i (es.size - i)).filter (fun i => (es[i]?.map (·.hash)) == some (mHash P w k))) (hi : i ≤ es.size) (hH : Hit xs k i hit) :
    y < es.size ∧ rest = (List.range' (y + 1) (es.size - (y + 1))).filter (fun i => (es[i]?.map (·.hash)) == some (mHash P w k)) ∧ ∃ (k' : MK) (v u : Value), xs[y]? = some (k', v, u) ∧ es[y]? = some ⟨mHash P w k', v, u⟩ ∧ Hit xs k y hit := by
  obtain ⟨hix, hxn, hpx, hskip, hrest⟩ := filter_range'_cons _ _ _ _ _ hr.symm
  have hlt : y < es.size := by omega
  have hlx : y < xs.length := by rw [← ent_size he]; exact hlt
  refine ⟨hlt, by rw [hrest]; congr 2; omega, xs[y].1, xs[y].2.1, xs[y].2.2, List.getElem?_eq_getElem hlx, ?_, ?_⟩
  · rw [ent_at he y, List.getElem?_eq_getElem hlx]; rfl
  · rcases hH with ⟨e, hno⟩ | ⟨j, q, e, hj, e2⟩
    · refine .inl ⟨e, fun j q hj e2 => ?_⟩
      rcases Nat.lt_or_ge j i with lt | ge
      · exact hno j q lt e2
      · have := hskip j ge hj
        rw [haskey j q e2] at this
        cases this
    · exact .inr ⟨j, q, e, by omega, e2⟩
theorem walk_end {es : Array DictEntry} {xs : List (MK × Value × Value)} {k : MK} {i : Nat} {hit : Option Nat} (he : es.toList = xs.map (mEnt P w)) (haskey : ∀ (j : Nat) (p : Value × Value), xs[j]? = some (k, p) → ((es[j]?.map (·.hash)) == some (mHash P w k)) = true)
    (hr : [] = (List.range' i (es.size - i)).filter (fun i => (es[i]?.map (·.hash)) == some (mHash P w k))) (hi : i ≤ es.size) (hH : Hit xs k i hit) :
    (hit = none ∧ ∀ (j : Nat) (p : Value × Value), xs[j]? ≠ some (k, p)) ∨ ∃ j p, hit = some j ∧ xs[j]? = some (k, p) := by
  rcases hH with ⟨e, hno⟩ | ⟨j, q, e, _, e2⟩
  · refine .inl ⟨e, fun j p hj => ?_⟩
    rcases Nat.lt_or_ge j i with lt | ge
    · exact hno j p lt hj
    · have hj1 : j < es.size := by rw [ent_size he]; exact (List.getElem?_eq_some_iff.mp hj).1
      have := List.filter_eq_nil_iff.mp hr.symm j (List.mem_range'_1.mpr ⟨ge, by omega⟩)
      rw [haskey j p hj] at this
      exact this rfl
  · exact .inr ⟨j, q, e, e2⟩
theorem m_find {d : Addr} {o : Obj} {es ep} {xs : List (MK × Value × Value)} {k : MK} {key : Value} {Q : Option Nat → Shared → Prop} (hu : A.units < cLine) (hkey : mIs P w s.heap k key) (ho : s.heap.get? d = some o) (hd : o.data = .dict es ep) (he : es.toList = xs.map (mEnt P w)) (his : ∀ y ∈ xs, mIs P w s.heap y.1 y.2.1) (hn : (xs.map (·.1)).Nodup)
    (hnone : (∀ (j : Nat) (p : Value × Value), xs[j]? ≠ some (k, p)) → Q none s) (hsome : ∀ (j : Nat) (p : Value × Value), xs[j]? = some (k, p) → Q (some j) s) :
    wpAny (model P w) A (dictFind d key (mHash P w k)) Q E s := by
  have hsz : es.size = xs.length := ent_size he
  have haskey : ∀ (j : Nat) (p : Value × Value), xs[j]? = some (k, p) → ((es[j]?.map (·.hash)) == some (mHash P w k)) = true := by
    intro j p hj
    rw [ent_at he j, hj]
    simp [mEnt]
  have hst : ∀ v ∈ (placesWithHash es.size (fun i => es[i]?.map (·.hash)) (mHash P w k)).filterMap (fun i => es[i]?.map (·.key)), ∃ k', mIs P w s.heap k' v := by
    intro v hv
    obtain ⟨i, _, hi⟩ := List.mem_filterMap.mp hv
    cases hei : es[i]? with
    | none => rw [hei] at hi; cases hi
    | some e =>
      rw [hei] at hi
      obtain rfl : e.key = v := by simpa using hi
      obtain ⟨x, hx, rfl⟩ := ent_mem he (Array.mem_of_getElem? hei)
      exact ⟨x.1, his x hx⟩
  cases k with
  | inl x =>
    obtain ⟨t, rfl⟩ := id hkey
    by_cases hall : ∀ y ∈ xs, ∃ z, y.1 = .inl z
    · exact find_strs ho hd he his hall hnone hsome
    · have hns : ¬ (es.all fun e => isExactStrKey e.key) = true := fun z => hall fun y hy => by
        have m : mEnt P w y ∈ es := Array.mem_toList_iff.mp (he ▸ List.mem_map.mpr ⟨y, hy, rfl⟩)
        have q := Array.all_eq_true_iff_forall_mem.mp z _ m
        obtain ⟨k, v, u⟩ := y
        cases k with
        | inl z => exact ⟨z, rfl⟩
        | inr ks =>
          obtain ⟨a, e, _⟩ := (show mIs P w s.heap (.inr ks) v from his _ hy)
          subst e
          cases q
      unfold dictFind
      try with_reducible refine wpAny_holding ?_
      refine wpAny_bind (wpAny_dictEntries ho hd ?_)
      dsimp only
      rw [if_neg hns]
      by_cases hv : ((Value.str x t :: (placesWithHash es.size (fun i => es[i]?.map (·.hash)) (mHash P w (.inl x))).filterMap (fun i => es[i]?.map (·.key))).all carriedByValue) = true
      · rw [if_pos hv]
        refine wpAny_bind ?_
        refine wpAny_forIn_list _
          (fun rest b s' => s' = s ∧ b = (none, ()) ∧ ∃ i, rest = (List.range' i (es.size - i)).filter (fun i => (es[i]?.map (·.hash)) == some (mHash P w (.inl x))) ∧ i ≤ es.size ∧ Hit xs (.inl x) i none) _ ?_ ?_ _ _
          ⟨rfl, rfl, 0, by rw [placesWithHash, List.range_eq_range', Nat.sub_zero], Nat.zero_le _, .inl ⟨rfl, fun _ _ z => absurd z (Nat.not_lt_zero _)⟩⟩
        · rintro y rest b s' ⟨rfl, rfl, i, hr, hi, hH⟩
          obtain ⟨hlt, hr2, k', v', u', hkv, hex, hHy⟩ := walk_step he haskey hr hi hH
          have hib : mIs P w s'.heap k' v' := his _ (List.mem_of_getElem? hkv)
          rw [hex]
          dsimp only
          by_cases hh : (mHash P w k' == mHash P w (.inl x)) = true
          · rw [if_pos hh]
            refine wpAny_bind (wpAny_dictEpoch ho hd (wpAny_bind (m_eq (x := k') (y := .inl x) hu hib hkey (wpAny_bind (wpAny_dictEpoch ho hd ?_)))))
            show wpAny _ _ (if (ep != ep) = true then _ else _) _ E _
            rw [if_neg (by simp)]
            by_cases hkk : k' = .inl x
            · rw [decide_eq_true hkk]
              subst hkk
              exact wpAny_bind (wpAny_rule (wpAny_pure (wpAny_pure (hsome y _ hkv))))
            · rw [decide_eq_false hkk]
              exact wpAny_bind (wpAny_rule (wpAny_pure ⟨rfl, rfl, y + 1, hr2, hlt, hHy.pass hkv hkk⟩))
          · rw [if_neg hh]
            refine wpAny_pure ⟨rfl, rfl, y + 1, hr2, hlt, hHy.pass hkv ?_⟩
            intro hkk
            rw [hkk] at hh; simp at hh
        · rintro b s' ⟨rfl, rfl, i, hr, hi, hH⟩
          rcases walk_end he haskey hr hi hH with ⟨_, hno⟩ | ⟨j, p, e, hj⟩
          · exact wpAny_pure (hnone hno)
          · cases e
      · rw [if_neg hv]
        by_cases hone : (((placesWithHash es.size (fun i => es[i]?.map (·.hash)) (mHash P w (.inl x))).filterMap (fun i => es[i]?.map (·.key))) == [Value.str x t]) = true
        · rw [if_pos hone]
          refine wpAny_bind (wpAny_pure ?_)
          rw [if_neg (by simp)]
          refine wpAny_bind ?_
          refine wpAny_forIn_list _
            (fun rest b s' => s' = s ∧ ∃ i hit, b = (none, hit) ∧ rest = (List.range' i (es.size - i)).filter (fun i => (es[i]?.map (·.hash)) == some (mHash P w (.inl x))) ∧ i ≤ es.size ∧ Hit xs (.inl x) i hit) _ ?_ ?_ _ _
            ⟨rfl, 0, none, rfl, by rw [placesWithHash, List.range_eq_range', Nat.sub_zero], Nat.zero_le _, .inl ⟨rfl, fun _ _ z => absurd z (Nat.not_lt_zero _)⟩⟩
          · rintro y rest b s' ⟨rfl, i, hit, rfl, hr, hi, hH⟩
            obtain ⟨hlt, hr2, k', v', u', hkv, hex, hHy⟩ := walk_step he haskey hr hi hH
            have hib : mIs P w s'.heap k' v' := his _ (List.mem_of_getElem? hkv)
            rw [hex]
            dsimp only
            by_cases hh : (mHash P w k' == mHash P w (.inl x)) = true
            · rw [if_pos hh]
              refine wpAny_bind (wpAny_dictEpoch ho hd (wpAny_bind (m_eq (x := k') (y := .inl x) hu hib hkey (wpAny_bind (wpAny_dictEpoch ho hd ?_)))))
              show wpAny _ _ (if (ep != ep) = true then _ else _) _ E _
              rw [if_neg (by simp)]
              by_cases hkk : k' = .inl x
              · rw [decide_eq_true hkk]
                subst hkk
                have hno := hHy.fresh hn hkv
                subst hno
                first | rw [if_pos rfl] | skip
                simp only [Option.isSome_none, Bool.false_eq_true, if_false]
                first | refine wpAny_bind (wpAny_pure ?_) | skip
                refine wpAny_bind (wpAny_rule ?_)
                split
                · exact wpAny_pure (wpAny_pure (hsome y _ hkv))
                · exact wpAny_pure ⟨rfl, y + 1, some y, rfl, hr2, hlt, .inr ⟨y, _, rfl, Nat.lt_succ_self y, hkv⟩⟩
              · rw [decide_eq_false hkk]
                simp only [Bool.false_eq_true, if_false]
                refine wpAny_bind (wpAny_rule ?_)
                first | rw [if_neg (by simp)] | skip
                first
                  | exact wpAny_pure ⟨rfl, y + 1, hit, rfl, hr2, hlt, hHy.pass hkv hkk⟩
                  | exact wpAny_bind (wpAny_pure (wpAny_pure ⟨rfl, y + 1, hit, rfl, hr2, hlt, hHy.pass hkv hkk⟩))
            · rw [if_neg hh]
              refine wpAny_pure ⟨rfl, y + 1, hit, rfl, hr2, hlt, hHy.pass hkv ?_⟩
              intro hkk
              rw [hkk] at hh; simp at hh
          · rintro b s' ⟨rfl, i, hit, rfl, hr, hi, hH⟩
            rcases walk_end he haskey hr hi hH with ⟨rfl, hno⟩ | ⟨j, p, rfl, hj⟩
            · exact wpAny_pure (hnone hno)
            · exact wpAny_pure (hsome j p hj)
        · rw [if_neg hone]
          refine wpAny_bind (m_tell hkey hst ?_)
          rw [if_neg (by simp)]
          refine wpAny_bind ?_
          refine wpAny_forIn_list _
            (fun rest b s' => s' = s ∧ ∃ i hit, b = (none, hit) ∧ rest = (List.range' i (es.size - i)).filter (fun i => (es[i]?.map (·.hash)) == some (mHash P w (.inl x))) ∧ i ≤ es.size ∧ Hit xs (.inl x) i hit) _ ?_ ?_ _ _
            ⟨rfl, 0, none, rfl, by rw [placesWithHash, List.range_eq_range', Nat.sub_zero], Nat.zero_le _, .inl ⟨rfl, fun _ _ z => absurd z (Nat.not_lt_zero _)⟩⟩
          · rintro y rest b s' ⟨rfl, i, hit, rfl, hr, hi, hH⟩
            obtain ⟨hlt, hr2, k', v', u', hkv, hex, hHy⟩ := walk_step he haskey hr hi hH
            have hib : mIs P w s'.heap k' v' := his _ (List.mem_of_getElem? hkv)
            rw [hex]
            dsimp only
            by_cases hh : (mHash P w k' == mHash P w (.inl x)) = true
            · rw [if_pos hh]
              refine wpAny_bind (wpAny_dictEpoch ho hd (wpAny_bind (m_eq (x := k') (y := .inl x) hu hib hkey (wpAny_bind (wpAny_dictEpoch ho hd ?_)))))
              show wpAny _ _ (if (ep != ep) = true then _ else _) _ E _
              rw [if_neg (by simp)]
              by_cases hkk : k' = .inl x
              · rw [decide_eq_true hkk]
                subst hkk
                have hno := hHy.fresh hn hkv
                subst hno
                first | rw [if_pos rfl] | skip
                simp only [Option.isSome_none, Bool.false_eq_true, if_false]
                first | refine wpAny_bind (wpAny_pure ?_) | skip
                refine wpAny_bind (wpAny_rule ?_)
                split
                · exact wpAny_pure (wpAny_pure (hsome y _ hkv))
                · exact wpAny_pure ⟨rfl, y + 1, some y, rfl, hr2, hlt, .inr ⟨y, _, rfl, Nat.lt_succ_self y, hkv⟩⟩
              · rw [decide_eq_false hkk]
                simp only [Bool.false_eq_true, if_false]
                refine wpAny_bind (wpAny_rule ?_)
                first | rw [if_neg (by simp)] | skip
                first
                  | exact wpAny_pure ⟨rfl, y + 1, hit, rfl, hr2, hlt, hHy.pass hkv hkk⟩
                  | exact wpAny_bind (wpAny_pure (wpAny_pure ⟨rfl, y + 1, hit, rfl, hr2, hlt, hHy.pass hkv hkk⟩))
            · rw [if_neg hh]
              refine wpAny_pure ⟨rfl, y + 1, hit, rfl, hr2, hlt, hHy.pass hkv ?_⟩
              intro hkk
              rw [hkk] at hh; simp at hh
          · rintro b s' ⟨rfl, i, hit, rfl, hr, hi, hH⟩
            rcases walk_end he haskey hr hi hH with ⟨rfl, hno⟩ | ⟨j, p, rfl, hj⟩
            · exact wpAny_pure (hnone hno)
            · exact wpAny_pure (hsome j p hj)
  | inr ks =>
    obtain ⟨a, rfl, hka⟩ := id hkey
    have hany : ¬ (es.any fun e => e.key == Value.ref a && e.hash != mHash P w (.inr ks)) = true := by
      intro z
      rw [← Array.any_toList, List.any_eq_true] at z
      obtain ⟨e, hin, hc⟩ := z
      obtain ⟨y, hy, rfl⟩ := ent_mem he (Array.mem_toList_iff.mp hin)
      simp only [mEnt, Bool.and_eq_true, beq_iff_eq, bne_iff_ne, ne_eq] at hc
      have q := his y hy
      rw [hc.1] at q
      exact hc.2 (by rw [mIs_inj q hkey])
    unfold dictFind
    try with_reducible refine wpAny_holding ?_
    refine wpAny_bind (wpAny_dictEntries ho hd ?_)
    dsimp only
    rw [if_neg (show ¬ ((Value.ref a :: (placesWithHash es.size (fun i => es[i]?.map (·.hash)) (mHash P w (.inr ks))).filterMap (fun i => es[i]?.map (·.key))).all carriedByValue) = true by simp [carriedByValue])]
    rw [if_neg hany]
    by_cases hone : (((placesWithHash es.size (fun i => es[i]?.map (·.hash)) (mHash P w (.inr ks))).filterMap (fun i => es[i]?.map (·.key))) == [Value.ref a]) = true
    · rw [if_pos hone]
      refine wpAny_bind (wpAny_pure ?_)
      rw [if_neg (by simp)]
      refine wpAny_bind ?_
      refine wpAny_forIn_list _
        (fun rest b s' => s' = s ∧ ∃ i hit, b = (none, hit) ∧ rest = (List.range' i (es.size - i)).filter (fun i => (es[i]?.map (·.hash)) == some (mHash P w (.inr ks))) ∧ i ≤ es.size ∧ Hit xs (.inr ks) i hit) _ ?_ ?_ _ _
        ⟨rfl, 0, none, rfl, by rw [placesWithHash, List.range_eq_range', Nat.sub_zero], Nat.zero_le _, .inl ⟨rfl, fun _ _ z => absurd z (Nat.not_lt_zero _)⟩⟩
      · rintro y rest b s' ⟨rfl, i, hit, rfl, hr, hi, hH⟩
        obtain ⟨hlt, hr2, k', v', u', hkv, hex, hHy⟩ := walk_step he haskey hr hi hH
        have hib : mIs P w s'.heap k' v' := his _ (List.mem_of_getElem? hkv)
        rw [hex]
        dsimp only
        by_cases hh : (mHash P w k' == mHash P w (.inr ks)) = true
        · rw [if_pos hh]
          refine wpAny_bind (wpAny_dictEpoch ho hd (wpAny_bind (m_eq (x := k') (y := .inr ks) hu hib hkey (wpAny_bind (wpAny_dictEpoch ho hd ?_)))))
          show wpAny _ _ (if (ep != ep) = true then _ else _) _ E _
          rw [if_neg (by simp)]
          by_cases hkk : k' = .inr ks
          · rw [decide_eq_true hkk]
            subst hkk
            have hno := hHy.fresh hn hkv
            subst hno
            first | rw [if_pos rfl] | skip
            simp only [Option.isSome_none, Bool.false_eq_true, if_false]
            first | refine wpAny_bind (wpAny_pure ?_) | skip
            refine wpAny_bind (wpAny_rule ?_)
            split
            · exact wpAny_pure (wpAny_pure (hsome y _ hkv))
            · exact wpAny_pure ⟨rfl, y + 1, some y, rfl, hr2, hlt, .inr ⟨y, _, rfl, Nat.lt_succ_self y, hkv⟩⟩
          · rw [decide_eq_false hkk]
            simp only [Bool.false_eq_true, if_false]
            refine wpAny_bind (wpAny_rule ?_)
            first | rw [if_neg (by simp)] | skip
            first
              | exact wpAny_pure ⟨rfl, y + 1, hit, rfl, hr2, hlt, hHy.pass hkv hkk⟩
              | exact wpAny_bind (wpAny_pure (wpAny_pure ⟨rfl, y + 1, hit, rfl, hr2, hlt, hHy.pass hkv hkk⟩))
        · rw [if_neg hh]
          refine wpAny_pure ⟨rfl, y + 1, hit, rfl, hr2, hlt, hHy.pass hkv ?_⟩
          intro hkk
          rw [hkk] at hh; simp at hh
      · rintro b s' ⟨rfl, i, hit, rfl, hr, hi, hH⟩
        rcases walk_end he haskey hr hi hH with ⟨rfl, hno⟩ | ⟨j, p, rfl, hj⟩
        · exact wpAny_pure (hnone hno)
        · exact wpAny_pure (hsome j p hj)
    · rw [if_neg hone]
      refine wpAny_bind (m_tell hkey hst ?_)
      rw [if_neg (by simp)]
      refine wpAny_bind ?_
      refine wpAny_forIn_list _
        (fun rest b s' => s' = s ∧ ∃ i hit, b = (none, hit) ∧ rest = (List.range' i (es.size - i)).filter (fun i => (es[i]?.map (·.hash)) == some (mHash P w (.inr ks))) ∧ i ≤ es.size ∧ Hit xs (.inr ks) i hit) _ ?_ ?_ _ _
        ⟨rfl, 0, none, rfl, by rw [placesWithHash, List.range_eq_range', Nat.sub_zero], Nat.zero_le _, .inl ⟨rfl, fun _ _ z => absurd z (Nat.not_lt_zero _)⟩⟩
      · rintro y rest b s' ⟨rfl, i, hit, rfl, hr, hi, hH⟩
        obtain ⟨hlt, hr2, k', v', u', hkv, hex, hHy⟩ := walk_step he haskey hr hi hH
        have hib : mIs P w s'.heap k' v' := his _ (List.mem_of_getElem? hkv)
        rw [hex]
        dsimp only
        by_cases hh : (mHash P w k' == mHash P w (.inr ks)) = true
        · rw [if_pos hh]
          refine wpAny_bind (wpAny_dictEpoch ho hd (wpAny_bind (m_eq (x := k') (y := .inr ks) hu hib hkey (wpAny_bind (wpAny_dictEpoch ho hd ?_)))))
          show wpAny _ _ (if (ep != ep) = true then _ else _) _ E _
          rw [if_neg (by simp)]
          by_cases hkk : k' = .inr ks
          · rw [decide_eq_true hkk]
            subst hkk
            have hno := hHy.fresh hn hkv
            subst hno
            first | rw [if_pos rfl] | skip
            simp only [Option.isSome_none, Bool.false_eq_true, if_false]
            first | refine wpAny_bind (wpAny_pure ?_) | skip
            refine wpAny_bind (wpAny_rule ?_)
            split
            · exact wpAny_pure (wpAny_pure (hsome y _ hkv))
            · exact wpAny_pure ⟨rfl, y + 1, some y, rfl, hr2, hlt, .inr ⟨y, _, rfl, Nat.lt_succ_self y, hkv⟩⟩
          · rw [decide_eq_false hkk]
            simp only [Bool.false_eq_true, if_false]
            refine wpAny_bind (wpAny_rule ?_)
            first | rw [if_neg (by simp)] | skip
            first
              | exact wpAny_pure ⟨rfl, y + 1, hit, rfl, hr2, hlt, hHy.pass hkv hkk⟩
              | exact wpAny_bind (wpAny_pure (wpAny_pure ⟨rfl, y + 1, hit, rfl, hr2, hlt, hHy.pass hkv hkk⟩))
        · rw [if_neg hh]
          refine wpAny_pure ⟨rfl, y + 1, hit, rfl, hr2, hlt, hHy.pass hkv ?_⟩
          intro hkk
          rw [hkk] at hh; simp at hh
      · rintro b s' ⟨rfl, i, hit, rfl, hr, hi, hH⟩
        rcases walk_end he haskey hr hi hH with ⟨rfl, hno⟩ | ⟨j, p, rfl, hj⟩
        · exact wpAny_pure (hnone hno)
        · exact wpAny_pure (hsome j p hj)
end
end Own
set_option Elab.async false
set_option linter.all false
set_option maxRecDepth 100000
set_option maxHeartbeats 2000000
/-! a dict with texts and tuples among its keys: read and written -/
namespace Own
open PySem PySem.Spec PyProof.Rows L2
section
variable (P : Program) (w : World)
structure MD (h : Heap) (d : Addr) (xs : List (MK × Value × Value)) : Prop where
  ex : ∃ o es ep, h.get? d = some o ∧ o.ExactDict ∧ o.data = .dict es ep ∧ es.toList = xs.map (mEnt P w)
  is : ∀ y ∈ xs, mIs P w h y.1 y.2.1
  nd : (xs.map (·.1)).Nodup
end
section
variable {P : Program} {w : World} {A : Around} {E : Value → Shared → Prop} {s : Shared} {d : Addr} {xs : List (MK × Value × Value)} {k : MK} {key : Value}
theorem MD.typeIs (hm : MD P w s.heap d xs) : s.TypeIs (.ref d) "dict" := by
  obtain ⟨o, _, _, ho, hc, _⟩ := hm.ex
  exact ⟨o, ho, hc.1⟩
theorem m_get {Q : Option Value → Shared → Prop} (hu : A.units < cLine) (hkey : mIs P w s.heap k key) (hm : MD P w s.heap d xs)
    (hno : (∀ (j : Nat) (p : Value × Value), xs[j]? ≠ some (k, p)) → Q none { s with toks := s.toks + mDraws k }) (hyes : ∀ (j : Nat) (p : Value × Value), xs[j]? = some (k, p) → Q (some p.2) { s with toks := s.toks + mDraws k }) : wpAny (model P w) A (dictGet d key) Q E s := by
  obtain ⟨o, es, ep, ho, _, hd, he⟩ := hm.ex
  unfold dictGet
  try with_reducible refine wpAny_holding ?_
  refine wpAny_bind (m_hash hu hkey (wpAny_bind (m_find (s := { s with toks := s.toks + mDraws k }) hu hkey ho hd he hm.is hm.nd (fun z => ?_) fun j p hj => ?_)))
  · exact wpAny_pure (hno z)
  · refine wpAny_bind (wpAny_dictEntries (s := { s with toks := s.toks + mDraws k }) ho hd ?_)
    rw [ent_at he j, hj]
    exact wpAny_pure (hyes j p hj)
theorem m_set {v : Value} {Q : Unit → Shared → Prop} (hu : A.units < cLine) (hkey : mIs P w s.heap k key) (hm : MD P w s.heap d xs) (hsz : xs.length ≤ sizeLine)
    (hnew : (∀ (j : Nat) (p : Value × Value), xs[j]? ≠ some (k, p)) → ∀ h', MD P w h' d (xs ++ [(k, key, v)]) → Heap.SameBut d s.heap h' → Q () { s with heap := h', toks := s.toks + mDraws k })
    (hold : ∀ (j : Nat) (p : Value × Value), xs[j]? = some (k, p) → ∀ h', MD P w h' d (xs.modify j fun y => (y.1, y.2.1, v)) → Heap.SameBut d s.heap h' → Q () { s with heap := h', toks := s.toks + mDraws k }) :
    wpAny (model P w) A (dictSet d key v) Q E s := by
  obtain ⟨o, es, ep, ho, hc, hd, he⟩ := hm.ex
  unfold dictSet
  try with_reducible refine wpAny_holding ?_
  refine wpAny_bind (m_hash hu hkey ?_)
  unfold dictSetHashed
  try with_reducible refine wpAny_holding ?_
  refine wpAny_bind (m_find (s := { s with toks := s.toks + mDraws k }) hu hkey ho hd he hm.is hm.nd (fun hno => ?_) fun j p hj => ?_)
  · have hnot : k ∉ xs.map (·.1) := fun m => by
      obtain ⟨y, hy, e⟩ := List.mem_map.mp m
      obtain ⟨j, hj, ej⟩ := List.getElem_of_mem hy
      exact hno j y.2 (by rw [List.getElem?_eq_getElem hj, ej, ← e])
    refine wpAny_bind (wpAny_rule (wpAny_updateDictKeys (hz := by have e := ent_size he; omega) (s := { s with toks := s.toks + mDraws k }) ho hd (hnew hno _ ⟨⟨_, _, ep + 1, Heap.get?_update_self _ ho (Obj.isFreed_of_dict (Obj.data_mapDictKeys hd _)),
      hc.mapDictKeys _, Obj.data_mapDictKeys hd _, ?_⟩, ?_, ?_⟩ (Heap.SameBut.update ..))))
    · simp [he, mEnt]
    · intro y hy
      rcases List.mem_append.mp hy with hy | hy
      · exact mIs_keeps (hm.is y hy) ho hd (Heap.SameBut.update ..)
      · rw [List.mem_singleton.mp hy]
        exact mIs_keeps hkey ho hd (Heap.SameBut.update ..)
    · rw [List.map_append, List.nodup_append]
      refine ⟨hm.nd, by simp, fun a ha b hb e => ?_⟩
      rw [List.map_cons, List.map_nil, List.mem_singleton] at hb
      exact hnot (by have e2 : b = k := hb; rw [← e2, ← e]; exact ha)
  · refine wpAny_bind (wpAny_rule (wpAny_bind (wpAny_updateDict (s := { s with toks := s.toks + mDraws k }) ho hd (wpAny_point (hold j p hj _ ⟨⟨_, _, ep, Heap.get?_update_self _ ho (Obj.isFreed_of_dict (Obj.data_mapDict hd _)),
      hc.mapDict _, Obj.data_mapDict hd _, ?_⟩, ?_, ?_⟩ (Heap.SameBut.update ..))))))
    · rw [Array.toList_modify, he]
      refine List.ext_getElem? fun i => ?_
      rw [List.getElem?_modify, List.getElem?_map, List.getElem?_map, List.getElem?_modify]
      cases hx : xs[i]? with
      | none => rfl
      | some y =>
        by_cases e : j = i
        · simp [e, mEnt]
        · simp [e]
    · intro y hy
      obtain ⟨i, hi, ei⟩ := List.getElem_of_mem hy
      have e1 : (xs.modify j fun y => (y.1, y.2.1, v))[i]? = some y := by rw [List.getElem?_eq_getElem hi, ei]
      rw [List.getElem?_modify] at e1
      cases hx : xs[i]? with
      | none => rw [hx] at e1; cases e1
      | some z =>
        rw [hx] at e1
        have hz := hm.is z (List.mem_of_getElem? hx)
        have hz2 := mIs_keeps hz ho hd (Heap.SameBut.update (h := s.heap) (a := d) (f := Obj.mapDict (·.modify j fun e => { e with val := v })))
        have e2 : (if j = i then (z.1, z.2.1, v) else z) = y := Option.some.inj e1
        by_cases e : j = i
        · rw [if_pos e] at e2
          rw [← e2]
          exact hz2
        · rw [if_neg e] at e2
          rw [← e2]
          exact hz2
    · have : (xs.modify j fun y => (y.1, y.2.1, v)).map (·.1) = xs.map (·.1) := by
        refine List.ext_getElem? fun i => ?_
        rw [List.getElem?_map, List.getElem?_map, List.getElem?_modify]
        cases xs[i]? with
        | none => rfl
        | some y => by_cases e : j = i <;> simp [e]
      rw [this]; exact hm.nd
end
end Own
set_option Elab.async false
set_option linter.all false
set_option maxRecDepth 100000
set_option maxHeartbeats 2000000
/-! the hand layer's rules for such a dict -/
namespace Own
open PySem PySem.Spec PyProof.Rows L2
def MR (x : MK × V × V) (v : MK × Value × Value) : Prop := x.1 = v.1 ∧ RelV x.2.1 v.2.1 ∧ RelV x.2.2 v.2.2
def MxO (P : Program) (w : World) (d : Addr) (xs : List (MK × V × V)) : HO := .ext fun h => xs.length ≤ sizeLine ∧ (d == sysModules) = false ∧ (xs.map (·.1)).Nodup ∧
  ∃ (vs : List (MK × Value × Value)) (o : Obj) (es : Array DictEntry) (ep : Nat), Paired MR xs vs ∧ h.get? d = some o ∧ o.ExactDict ∧ o.data = .dict es ep ∧ es.toList = vs.map (mEnt P w)
def KeyAt (H : Hp) (x : MK × V × V) : Prop := match x.1 with
  | .inl z => x.2.1 = .str z
  | .inr ks => ∃ a : Addr, x.2.1 = .ref a ∧ H a = some (.tup (ks.map kV))
def KeyL (K : PySem.W.Frag) (H : Hp) (y : V) : MK → Prop
  | .inl z => y = .str z
  | .inr ks => ∃ a : Addr, y = .ref a ∧ SqT K H a (ks.map kV)
structure MDic (P : Program) (w : World) (H : Hp) (d : Addr) (m : List (MK × V)) : Prop where
  ex : ∃ xs, H d = some (MxO P w d xs) ∧ (∀ x ∈ xs, KeyAt H x) ∧ m = xs.map fun x => (x.1, x.2.2)
theorem KeyAt.up {H H' : Hp} {x : MK × V × V} (h : KeyAt H x) (s : ∀ a ys, H a = some (.tup ys) → H' a = some (.tup ys)) : KeyAt H' x := by
  unfold KeyAt at h ⊢
  split at h
  · exact h
  · obtain ⟨a, e1, e2⟩ := h
    exact ⟨a, e1, s _ _ e2⟩
theorem MDic.up {P : Program} {w : World} {H H' : Hp} {d : Addr} {m : List (MK × V)} (h : MDic P w H d m) (s : Same H H') : MDic P w H' d m := by
  obtain ⟨xs, h1, h2, h3⟩ := h.ex
  exact ⟨xs, s _ _ h1, fun x hx => (h2 x hx).up fun a ys e => s _ _ e, h3⟩
section
variable {P : Program} {w : World}
theorem mr_keys : ∀ {xs : List (MK × V × V)} {vs : List (MK × Value × Value)}, Paired MR xs vs → vs.map (·.1) = xs.map (·.1)
  | _, _, .nil => rfl
  | _, _, .cons a b => by rw [List.map_cons, List.map_cons, mr_keys b, a.1]
theorem mr_at : ∀ {xs : List (MK × V × V)} {vs : List (MK × Value × Value)} {i : Nat} {v : MK × Value × Value}, Paired MR xs vs → vs[i]? = some v → ∃ x, xs[i]? = some x ∧ MR x v
  | _, _, 0, v, .cons a _, h => ⟨_, rfl, by rw [← Option.some.inj h]; exact a⟩
  | _, _, i + 1, v, .cons _ b, h => mr_at (i := i) b h
  | _, _, i, v, .nil, h => by simp at h
theorem mr_at' : ∀ {xs : List (MK × V × V)} {vs : List (MK × Value × Value)} {i : Nat} {x : MK × V × V}, Paired MR xs vs → xs[i]? = some x → ∃ v, vs[i]? = some v ∧ MR x v
  | _, _, 0, x, .cons a _, h => ⟨_, rfl, by rw [← Option.some.inj h]; exact a⟩
  | _, _, i + 1, x, .cons _ b, h => mr_at' (i := i) b h
  | _, _, i, x, .nil, h => by simp at h
theorem mr_snoc : ∀ {xs : List (MK × V × V)} {vs : List (MK × Value × Value)} {x : MK × V × V} {v : MK × Value × Value}, Paired MR xs vs → MR x v → Paired MR (xs ++ [x]) (vs ++ [v])
  | _, _, _, _, .nil, h => .cons h .nil
  | _, _, _, _, .cons a b, h => .cons a (mr_snoc b h)
theorem mr_mod {y : V} {u : Value} (ry : RelV y u) : ∀ {xs : List (MK × V × V)} {vs : List (MK × Value × Value)} (j : Nat), Paired MR xs vs → Paired MR (xs.modify j fun x => (x.1, x.2.1, y)) (vs.modify j fun x => (x.1, x.2.1, u))
  | _, _, _, .nil => by simpa using .nil
  | _, _, 0, .cons a b => .cons ⟨a.1, a.2.1, ry⟩ b
  | _, _, j + 1, .cons a b => .cons a (mr_mod ry j b)
theorem tup_is {h : Heap} {ks : List L2.Key} {a : Addr} {its : List Value} (r : Vals (ks.map kV) its) (ht : IsTup h a its.toArray) : (tupleKind (mixKind P w)).is h ks a := by
  obtain ⟨o, h1, h2, n, h3⟩ := ht
  exact ⟨o, its.toArray, n, h1, h2, h3, by simpa using items_are r⟩
section
variable {X : Cx} {pins : List (Addr × Obj)} {σ : L2.St} {H : Hp} {s : Shared} {d : Addr}
theorem key_real (I : L2.Inv X pins σ H s) {y : V} {u : Value} {k : MK} (hk : KeyL X.K H y k) (ry : RelV y u) : mIs X.prog X.w s.heap k u := by
  cases k with
  | inl z =>
    have e : y = .str z := hk
    subst e
    exact ry
  | inr ks =>
    obtain ⟨a, e, hs⟩ := hk
    subst e
    obtain rfl : u = Value.ref a := ry
    obtain ⟨its, r, ht, _⟩ := I.tuple hs
    exact ⟨a, rfl, tup_is r ht⟩
theorem keyAt_real (I : L2.Inv X pins σ H s) {x : MK × V × V} {v : MK × Value × Value} (hk : KeyAt H x) (r : MR x v) : mIs X.prog X.w s.heap v.1 v.2.1 := by
  obtain ⟨k, y, z⟩ := x
  obtain ⟨k2, u, z2⟩ := v
  obtain ⟨e, r1, _⟩ := r
  cases e
  cases k with
  | inl z =>
    have e : y = .str z := hk
    subst e
    exact r1
  | inr ks =>
    obtain ⟨a, e, hs⟩ := (show ∃ a : Addr, y = .ref a ∧ H a = some (.tup (ks.map kV)) from hk)
    subst e
    obtain rfl : u = Value.ref a := r1
    exact ⟨a, rfl, key_of I.hok hs⟩
theorem md_of (I : L2.Inv X pins σ H s) {xs : List (MK × V × V)} (h1 : H d = some (MxO X.prog X.w d xs)) (h2 : ∀ x ∈ xs, KeyAt H x) :
    xs.length ≤ sizeLine ∧ (d == sysModules) = false ∧ (xs.map (·.1)).Nodup ∧ ∃ vs, Paired MR xs vs ∧ MD X.prog X.w s.heap d vs := by
  obtain ⟨hl, hs, hn, vs, o, es, ep, hp, ho, hc, hd, he⟩ := (show ObjOk X.prog X.w H s.heap d (MxO X.prog X.w d xs) from I.hok d _ h1).1
  refine ⟨hl, hs, hn, vs, hp, ⟨o, es, ep, ho, hc, hd, he⟩, fun v hv => ?_, by rw [mr_keys hp]; exact hn⟩
  obtain ⟨i, hi, e⟩ := List.getElem_of_mem hv
  obtain ⟨x, hx, r⟩ := mr_at hp (by rw [List.getElem?_eq_getElem hi, e])
  exact keyAt_real I (h2 x (List.mem_of_getElem? hx)) r
theorem mx_ok {h : Heap} {xs : List (MK × V × V)} {vs : List (MK × Value × Value)} (hl : xs.length ≤ sizeLine) (hs : (d == sysModules) = false) (hn : (xs.map (·.1)).Nodup) (hp : Paired MR xs vs)
    (ex : ∃ o es ep, h.get? d = some o ∧ o.ExactDict ∧ o.data = .dict es ep ∧ es.toList = vs.map (mEnt X.prog X.w)) : ObjOk X.prog X.w H h d (MxO X.prog X.w d xs) := by
  obtain ⟨o, es, ep, ho, hc, hd, he⟩ := ex
  refine ⟨⟨hl, hs, hn, vs, o, es, ep, hp, ho, hc, hd, he⟩, ⟨o, ho⟩, fun h1 h2 z k => ?_⟩
  obtain ⟨a1, a2, a3, vs1, o1, es1, ep1, b1, b2, b3, b4, b5⟩ := z
  exact ⟨a1, a2, a3, vs1, o1, es1, ep1, b1, k _ b2, b3, b4, b5⟩
/-- what stands at a place of the pairs -/
theorem val_of {xs : List (MK × V × V)} (hn : (xs.map (·.1)).Nodup) {j : Nat} {x : MK × V × V} (h : xs[j]? = some x) : valV (xs.map fun x => (x.1, x.2.2)) x.1 = some x.2.2 := by
  induction xs generalizing j with
  | nil => simp at h
  | cons y r ih =>
    rw [List.map_cons, List.nodup_cons] at hn
    cases j with
    | zero =>
      cases h
      exact valV_pos rfl
    | succ j =>
      have hm : x.1 ∈ r.map (·.1) := List.mem_map.mpr ⟨x, List.mem_of_getElem? (show r[j]? = some x from h), rfl⟩
      rw [List.map_cons, valV_neg (fun e : y.1 = x.1 => hn.1 (by rw [e]; exact hm))]
      exact ih hn.2 (show r[j]? = some x from h)
theorem val_none {xs : List (MK × V × V)} {k : MK} (h : ∀ (j : Nat) (p : V × V), xs[j]? ≠ some (k, p)) : valV (xs.map fun x => (x.1, x.2.2)) k = none := by
  induction xs with
  | nil => rfl
  | cons y r ih =>
    rw [List.map_cons, valV_neg (fun e : y.1 = k => h 0 y.2 (by rw [← e]; rfl))]
    exact ih fun j p e => h (j + 1) p e
end
end
end Own
set_option Elab.async false
set_option linter.all false
set_option maxRecDepth 100000
set_option maxHeartbeats 2000000
/-! d[k], k in d, d[k] = v; a dict of texts told as such a dict -/
namespace Own
open PySem PySem.Spec PyProof.Rows L2
section
variable {X : Cx} {pins : List (Addr × Obj)} {σ : L2.St} {H : Hp} {s : Shared} {d : Addr} {m : List (MK × V)} {k : MK} {y : V} {u : Value} {A : Around} {E : Value → Shared → Prop}
theorem mx_getItem {Q : Value → Shared → Prop} {v : V} (hu : A.units + 1 < cLine) (I : L2.Inv X pins σ H s) (g : MDic X.prog X.w H d m) (hk : KeyL X.K H y k) (ry : RelV y u) (hv : valV m k = some v) (h : ∀ w' s', L2.Inv X pins σ H s' → RelV v w' → Q w' s') :
    wpAny (model X.prog X.w) A (getItem (.ref d) u) Q E s := by
  obtain ⟨xs, h1, h2, rfl⟩ := g.ex
  obtain ⟨_, _, hn, vs, hp, hm⟩ := md_of I h1 h2
  unfold getItem
  try with_reducible refine wpAny_holding ?_
  refine wpAny_bind (wpAny_sequenceKey hm.typeIs (by decide) ?_)
  refine wpAny_bind (wpAny_callSpecial?_slot (name := Str.ofString "__getitem__") hm.typeIs PySem.F.slot_dict_getitem (wpAny_call_entry PySem.F.slot_dict_getitem hm.typeIs PySem.F.entry_dict_getitem ?_ (PySem.F.args_dict_getitem_2 _ _)))
  show wpAny _ _ (dictGet d u >>= _) _ _ s
  refine wpAny_bind (m_get (A := A.in1) hu (key_real I hk ry) hm (fun z => ?_) fun j p hj => ?_)
  · rw [val_none fun j p e => ?_] at hv
    · cases hv
    · obtain ⟨v2, e2, r⟩ := mr_at' hp e
      obtain ⟨k2, q⟩ := v2
      exact z j q (by rw [e2, show k2 = k from r.1.symm])
  · obtain ⟨x, hx, r⟩ := mr_at hp hj
    have e := val_of hn hx
    rw [show x.1 = k from r.1] at e
    rw [hv] at e
    have e2 : v = x.2.2 := Option.some.inj e
    exact wpAny_pure ⟨p.2, rfl, wpAny_pure (h _ _ (I.tok _) (by rw [e2]; exact r.2.2))⟩
theorem mx_in {Q : Value → Shared → Prop} (hu : A.units + 1 < cLine) (I : L2.Inv X pins σ H s) (g : MDic X.prog X.w H d m) (hk : KeyL X.K H y k) (ry : RelV y u) (h : ∀ s', L2.Inv X pins σ H s' → Q (.bool (valV m k).isSome) s') :
    wpAny (model X.prog X.w) A (compareOp .In u (.ref d)) Q E s := by
  obtain ⟨xs, h1, h2, rfl⟩ := g.ex
  obtain ⟨_, hsm, hn, vs, hp, hm⟩ := md_of I h1 h2
  show wpAny _ _ (do return .bool (← contains (.ref d) u)) Q E s
  refine wpAny_bind ?_
  unfold contains
  try with_reducible refine wpAny_holding ?_
  refine wpAny_bind (wpAny_specialOf hm.typeIs PySem.F.slot_dict_contains.lookup ?_)
  show wpAny _ _ (if (some (Value.builtin "dict.__contains__") == some Value.none) = true then _ else _) _ E s
  rw [if_neg (by rw [beq_builtin_none]; exact Bool.false_ne_true)]
  refine wpAny_bind (wpAny_callSpecialUnlessNone?_slot (name := Str.ofString "__contains__") hm.typeIs PySem.F.slot_dict_contains
    (wpAny_call_entry PySem.F.slot_dict_contains hm.typeIs PySem.F.entry_dict_contains ?_ (PySem.F.args_dict_contains_2 _ _)))
  show wpAny _ _ (dictGet d u >>= _) _ _ s
  refine wpAny_bind (m_get (A := A.in1) hu (key_real I hk ry) hm (fun z => ?_) fun j p hj => ?_)
  · have e0 := val_none (xs := xs) (k := k) fun j p e => by
      obtain ⟨v2, e2, r⟩ := mr_at' hp e
      obtain ⟨k2, q⟩ := v2
      exact z j q (by rw [e2, show k2 = k from r.1.symm])
    rw [e0] at h
    show wpAny _ _ (Builtin.Dict.pendingKey? d u >>= _) _ _ _
    exact wpAny_bind (wpAny_pendingKey_other hsm (wpAny_pure ⟨_, rfl, wpAny_truthy_bool (wpAny_pure (h _ (I.tok _)))⟩))
  · obtain ⟨x, hx, r⟩ := mr_at hp hj
    have e := val_of hn hx
    rw [show x.1 = k from r.1] at e
    rw [e] at h
    show wpAny _ _ (ret (.bool true)) _ _ _
    exact wpAny_pure ⟨_, rfl, wpAny_truthy_bool (wpAny_pure (h _ (I.tok _)))⟩
theorem keyAt_new {k : MK} {y v : V} {H : Hp} (hk : KeyAt H (k, y, v)) : ∀ v', KeyAt H (k, y, v') := fun v' => hk
/-- d[y] = v: what the key is stands in the heap as a tuple of one's own, or is a text -/
theorem mx_setItem {r : Value} {v : V} {Q : Unit → Shared → Prop} (hu : A.units + 1 < cLine) (I : L2.Inv X pins σ H s) (g : MDic X.prog X.w H d m) (hk : KeyL X.K H y k) (hka : KeyAt H (k, y, v)) (hl : m.length < sizeLine) (ry : RelV y u) (rv : RelV v r)
    (h : ∀ o s', MDic X.prog X.w (upd H d o) d (putK m k v) → L2.Inv X pins σ (upd H d o) s' → Q () s') : wpAny (model X.prog X.w) A (setItem (.ref d) u r) Q E s := by
  obtain ⟨xs, h1, h2, rfl⟩ := g.ex
  obtain ⟨hl0, hsm, hn, vs, hp, hm⟩ := md_of I h1 h2
  have hlx : xs.length < sizeLine := by rw [List.length_map] at hl; exact hl
  have hlv : vs.length = xs.length := hp.length.symm
  have keep : ∀ {o : HO} (x : MK × V × V), KeyAt H x → KeyAt (upd H d o) x := fun x z => z.up fun a ys e => by
    rw [upd_ne (ne_of e h1 (fun q => nomatch q))]; exact e
  unfold setItem
  try with_reducible refine wpAny_holding ?_
  refine wpAny_bind (wpAny_sequenceKey hm.typeIs (by decide) ?_)
  refine wpAny_bind (wpAny_callSpecial?_slot (name := Str.ofString "__setitem__") hm.typeIs PySem.F.slot_dict_setitem (wpAny_call_entry PySem.F.slot_dict_setitem hm.typeIs PySem.F.entry_dict_setitem ?_ (PySem.F.args_dict_setitem_3 _ _ _)))
  show wpAny _ _ (Builtin.Dict.notOrdered "__setitem__" ⟨[.ref d, u, r], []⟩ >>= _) _ _ s
  refine wpAny_bind (wpAny_notOrdered_dict hm.typeIs ?_)
  show wpAny _ _ (dictSet d u r >>= _) _ _ s
  have mu : Mut (H d) := by rw [h1]; exact True.intro
  refine wpAny_bind (m_set (A := A.in1) hu (key_real I hk ry) hm (by rw [hlv]; exact hl0) (fun hno h' hm' hs' => wpAny_pure ⟨.none, rfl, wpAny_pure (h (MxO X.prog X.w d (xs ++ [(k, y, v)])) _ ⟨⟨_, upd_same, fun x hx => ?_, ?_⟩⟩ ?_)⟩) fun j p hj h' hm' hs' => wpAny_pure ⟨.none, rfl, wpAny_pure (h (MxO X.prog X.w d (xs.modify j fun x => (x.1, x.2.1, v))) _ ⟨⟨_, upd_same, fun x hx => ?_, ?_⟩⟩ ?_)⟩)
  · rcases List.mem_append.mp hx with hx | hx
    · exact keep _ (h2 x hx)
    · rw [List.mem_singleton.mp hx]; exact keep _ hka
  · have e0 := val_none (xs := xs) (k := k) fun j p e => by
      obtain ⟨v2, e2, r⟩ := mr_at' hp e
      obtain ⟨k2, q⟩ := v2
      exact hno j q (by rw [e2, show k2 = k from r.1.symm])
    rw [putK_new v e0, List.map_append]; rfl
  · have hpn := mr_snoc hp (show MR (k, y, v) (k, u, r) from ⟨rfl, ry, rv⟩)
    have hnn : ((xs ++ [(k, y, v)]).map (·.1)).Nodup := by rw [← mr_keys hpn]; exact hm'.nd
    obtain ⟨o, es, ep, ho, q⟩ := hm'.ex
    exact d_write I mu hs' ⟨o, ho⟩ (mx_ok (by rw [List.length_append, List.length_singleton]; omega) hsm hnn hpn ⟨o, es, ep, ho, q⟩)
  · obtain ⟨i, hi, e⟩ := List.getElem_of_mem hx
    have e1 : (xs.modify j fun x => (x.1, x.2.1, v))[i]? = some x := by rw [List.getElem?_eq_getElem hi, e]
    rw [List.getElem?_modify] at e1
    cases hz : xs[i]? with
    | none => rw [hz] at e1; cases e1
    | some z =>
      rw [hz] at e1
      have e2 : (if j = i then (z.1, z.2.1, v) else z) = x := Option.some.inj e1
      have hzk := h2 z (List.mem_of_getElem? hz)
      by_cases c : j = i
      · rw [if_pos c] at e2
        rw [← e2]; exact keep _ hzk
      · rw [if_neg c] at e2
        rw [← e2]; exact keep _ hzk
  · obtain ⟨x, hx, rx⟩ := mr_at hp hj
    have ek : x.1 = k := rx.1
    have he := val_of hn hx
    rw [ek] at he
    unfold putK
    rw [valV_any, he]
    refine List.ext_getElem? fun i => ?_
    simp only [Option.isSome_some, if_true, List.getElem?_map, List.getElem?_modify]
    cases hz : xs[i]? with
    | none => rfl
    | some z =>
      by_cases c : j = i
      · subst c
        rw [hx] at hz
        cases hz
        simp [ek]
      · have nk : ¬ z.1 = k := fun q => c (by
          have a1 : (xs.map (·.1))[j]? = some k := by rw [List.getElem?_map, hx, ← ek]; rfl
          have a2 : (xs.map (·.1))[i]? = some k := by rw [List.getElem?_map, hz, ← q]; rfl
          obtain ⟨b1, c1⟩ := List.getElem?_eq_some_iff.mp a1
          obtain ⟨b2, c2⟩ := List.getElem?_eq_some_iff.mp a2
          exact (List.getElem_inj hn).mp (c1.trans c2.symm))
        simp [c, nk]
  · have hpn := mr_mod rv j hp
    have hnn : ((xs.modify j fun x => (x.1, x.2.1, v)).map (·.1)).Nodup := by rw [← mr_keys hpn]; exact hm'.nd
    obtain ⟨o, es, ep, ho, q⟩ := hm'.ex
    exact d_write I mu hs' ⟨o, ho⟩ (mx_ok (by rw [List.length_modify]; exact hl0) hsm hnn hpn ⟨o, es, ep, ho, q⟩)
end
end Own
set_option Elab.async false
set_option linter.all false
set_option maxRecDepth 100000
set_option maxHeartbeats 2000000
/-! expressions and statements over such a dict -/
namespace Own
open PySem PySem.Spec PyProof.Rows L2
def tMGet (P : Program) (w : World) (K : PySem.W.Frag) (td ty : TE) : TE := fun σ H Q => td σ H fun x H1 => ty σ H1 fun y H2 => ∃ d m k v, x = .ref d ∧ MDic P w H2 d m ∧ KeyL K H2 y k ∧ valV m k = some v ∧ Q v H2
def tMIn (P : Program) (w : World) (K : PySem.W.Frag) (ty td : TE) : TE := fun σ H Q => ty σ H fun y H1 => td σ H1 fun x H2 => ∃ d m k, x = .ref d ∧ MDic P w H2 d m ∧ KeyL K H2 y k ∧ Q (.bl (valV m k).isSome) H2
def sMPut (P : Program) (w : World) (K : PySem.W.Frag) (td ty tv : TE) : TS := fun D σ H => tv σ H fun v H1 => td σ H1 fun x H2 => ty σ H2 fun y H3 => ∃ d m k, x = .ref d ∧ MDic P w H3 d m ∧ KeyL K H3 y k ∧ KeyAt H3 (k, y, v) ∧ m.length < sizeLine ∧ ∀ o, MDic P w (upd H3 d o) d (putK m k v) → D.nx σ (upd H3 d o)
/-- a dict of texts is told as one with texts and tuples -/
def tMix (P : Program) (w : World) (t : TE) : TE := fun σ H Q => t σ H fun x H1 => ∃ d kvs, x = .ref d ∧ H1 d = some (.dK kvs) ∧ ∃ m : List (Str × V), kvs = m.map (fun q => (.inr q.1, q.2)) ∧ ∀ o, MDic P w (upd H1 d o) d (m.map fun q => (.inl q.1, q.2)) → Q x (upd H1 d o)
section
variable {X : Cx}
theorem md_type {pins : List (Addr × Obj)} {σ : L2.St} {H : Hp} {s : Shared} {d : Addr} {m : List (MK × V)} (I : L2.Inv X pins σ H s) (g : MDic X.prog X.w H d m) : s.TypeIs (.ref d) "dict" := by
  obtain ⟨xs, h1, h2, rfl⟩ := g.ex
  obtain ⟨_, _, _, vs, _, hm⟩ := md_of I h1 h2
  exact hm.typeIs
theorem pe_mget {P : Program} {w : World} {K : PySem.W.Frag} (hP : X.prog = P) (hw : X.w = w) (hK : X.K = K) {o i : Expr} {td ty : TE} {pos : Pos} (hu : X.A.units + 1 < cLine) (ho : PE X o td) (hi : PE X i ty) (hs : NoSl i) : PE X (.Subscript o i pos) (tMGet P w K td ty) := by
  subst hP hw hK
  refine ⟨fun pins s σ H Q I h => ?_⟩
  refine subD_of PySem.F.slot_dict_getitem.lookup hs (thn (ho.run pins s σ H _ I h) fun u s1 ⟨x, H1, I1, rx, q1⟩ => thn (hi.run pins s1 σ H1 _ I1 q1) fun iv s2 ⟨y, H2, I2, ry, d, m, k, v, ex, g, hk, hv, q2⟩ => ?_)
  subst ex
  obtain rfl : u = Value.ref d := rx
  exact ⟨md_type I2 g, mx_getItem hu I2 g hk ry hv fun w' s3 I3 rw' => ⟨v, H2, I3, rw', q2⟩⟩
theorem pc_min {P : Program} {w : World} {K : PySem.W.Frag} (hP : X.prog = P) (hw : X.w = w) (hK : X.K = K) {o i : Expr} {td ty : TE} (hu : X.A.units + 1 < cLine) (hi : PE X i ty) (ho : PE X o td) : PC X .In i o (tMIn P w K ty td) := by
  subst hP hw hK
  refine ⟨fun pins s σ H Q I h => ?_⟩
  refine thn (hi.run pins s σ H _ I h) fun iv s1 ⟨y, H1, I1, ry, q1⟩ => thn (ho.run pins s1 σ H1 _ I1 q1) fun u s2 ⟨x, H2, I2, rx, d, m, k, ex, g, hk, q2⟩ => ?_
  subst ex
  obtain rfl : u = Value.ref d := rx
  exact mx_in hu I2 g hk ry fun s3 I3 => ⟨.bl (valV m k).isSome, H2, I3, rfl, q2⟩
theorem ps_mput {P : Program} {w : World} {K : PySem.W.Frag} (hP : X.prog = P) (hw : X.w = w) (hK : X.K = K) {o i value : Expr} {td ty tv : TE} {pos pos' : Pos} (hu : X.A.units + 1 < cLine) (ho : PE X o td) (hi : PE X i ty) (hv : PE X value tv) (hs : swapsWith value (some (.Subscript o i pos')) pos.line X.env = pure false) :
    PS X (.Assign [.Subscript o i pos'] value pos) (sMPut P w K td ty tv) := by
  subst hP hw hK
  refine ⟨fun pins s σ H D I h => ?_⟩
  refine wpAny_Assign_Subscript (thn (hv.run pins s σ H _ I h) fun r s1 ⟨v, H1, I1, rv, q1⟩ => thn (ho.run pins s1 σ H1 _ I1 q1) fun u s2 ⟨x, H2, I2, rx, q2⟩ => thn (hi.run pins s2 σ H2 _ I2 q2) fun iv s3 ⟨y, H3, I3, ry, d, m, k, ex, g, hk, hka, hl, q3⟩ => ?_) hs
  subst ex
  obtain rfl : u = Value.ref d := rx
  exact mx_setItem hu I3 g hk hka hl ry rv fun o s4 g4 I4 => ⟨σ, _, I4, q3 o g4⟩
theorem mix_key {P : Program} {w : World} {x : Str} {u : Value} (h : (mixKind P w).is (.inr x) u = true) : ∃ t, u = .str x t := by
  rcases keyIs_shape (show keyIs (.inr x) u = true from h) with ⟨i, t, e, _⟩ | ⟨z, t, e, rfl⟩
  · cases e
  · cases e
    exact ⟨t, rfl⟩
theorem ent_key {P : Program} {w : World} {e : DictEntry} {x : Str} {y : V} {v : Value} (h1 : (mixKind P w).is (.inr x) e.key = true) (h2 : e.val = v) (hh : ∃ k, (mixKind P w).is k e.key = true ∧ e.hash = (mixKind P w).hash k) (ry : RelV y v) :
    mEnt P w (.inl x, e.key, e.val) = e ∧ MR (.inl x, .str x, y) (.inl x, e.key, e.val) := by
  obtain ⟨k', b1, b2⟩ := hh
  have ek : k' = .inr x := (mixKind P w).inj _ _ _ b1 h1
  rw [ek] at b2
  refine ⟨?_, rfl, mix_key h1, by rw [h2]; exact ry⟩
  obtain ⟨eh, ekk, ev⟩ := e
  have b3 : eh = (mixKind P w).hash (.inr x) := b2
  rw [b3]
  rfl
theorem pairs_mx {P : Program} {w : World} (m : List (Str × V)) : ∀ {l : List DictEntry} {vs : List (L2.Key × Value)}, Pairs (mixKind P w) l vs → (∀ e ∈ l, ∃ k, (mixKind P w).is k e.key = true ∧ e.hash = (mixKind P w).hash k) → KV (m.map fun q => ((.inr q.1 : L2.Key), q.2)) vs →
    ∃ vs' : List (MK × Value × Value), l = vs'.map (mEnt P w) ∧ Paired MR (m.map fun q => ((.inl q.1 : MK), V.str q.1, q.2)) vs' := by
  induction m with
  | nil =>
    intro l vs hp hk rel
    cases rel
    cases hp
    exact ⟨[], rfl, .nil⟩
  | cons q m ih =>
    intro l vs hp hk rel
    cases rel with
    | @cons _ kv _ rest a b =>
      cases hp with
      | @cons e _ es _ h1 h2 r =>
        obtain ⟨vs', e1, e2⟩ := ih r (fun z hz => hk z (List.mem_cons_of_mem _ hz)) b
        obtain ⟨k, v⟩ := kv
        obtain ⟨a1, a2⟩ := a
        have a3 : k = .inr q.1 := a1.symm
        subst a3
        obtain ⟨z1, z2⟩ := ent_key h1 h2 (hk e (List.mem_cons_self ..)) a2
        exact ⟨(.inl q.1, e.key, e.val) :: vs', by rw [List.map_cons, z1, ← e1], .cons z2 e2⟩
theorem pe_mix {P : Program} {w : World} (hP : X.prog = P) (hw : X.w = w) {e : Expr} {t : TE} (he : PE X e t) : PE X e (tMix P w t) := by
  subst hP hw
  refine ⟨fun pins s σ H Q I h => ?_⟩
  refine thn (he.run pins s σ H _ I h) fun u s1 ⟨x, H1, I1, rx, d, kvs, ex, hd, m, em, q⟩ => ?_
  subst ex em
  obtain ⟨hl, hsm, vs, rel, o, es, ep, ho, hc, hdat, hko, hpr, hnd⟩ := dk_of I1.hok hd
  obtain ⟨vs', e1, e2⟩ := pairs_mx m hpr (fun e he => hko e (Array.mem_toList_iff.mp he)) rel
  have hn : ((m.map fun q => ((.inl q.1 : MK), V.str q.1, q.2)).map (·.1)).Nodup := by
    have h1 : (vs.map (·.1)) = m.map fun q => (.inr q.1 : L2.Key) := by rw [← rel.keys, List.map_map]; rfl
    rw [h1] at hnd
    rw [List.map_map]
    exact List.pairwise_map.mpr ((List.pairwise_map.mp hnd).imp fun n e => n (by rw [show _ = _ from Sum.inl.inj e]))
  have I2 : L2.Inv X pins σ (upd H1 d (MxO X.prog X.w d (m.map fun q => ((.inl q.1 : MK), V.str q.1, q.2)))) s1 :=
    Inv.write (t' := s1.toks) I1 (x := d) (e := d) (by rw [hd]; exact True.intro) (.inl rfl) (fun _ _ _ z => z) ⟨o, ho⟩ (mx_ok (by rw [List.length_map] at hl ⊢; exact hl) hsm hn e2 ⟨o, es, ep, ho, hc, hdat, e1⟩)
  refine ⟨.ref d, _, I2, rx, q _ ⟨⟨_, upd_same, fun y hy => ?_, by rw [List.map_map]; rfl⟩⟩⟩
  obtain ⟨z, _, rfl⟩ := List.mem_map.mp hy
  rfl
end
end Own
set_option Elab.async false
set_option linter.all false
set_option maxRecDepth 100000
set_option maxHeartbeats 2000000
/-! own classes: x + y, x & y by an own def; a static method; an exception of an own class without __init__ of its own, its base an own class, too -/
namespace Own
open PySem PySem.Spec PyProof.Rows L2
section
variable {X : Cx} {CX : CXT} {C f : Addr} {fd : FuncData} {ps : List Str} {n : Nat} {sp : Sp} {E : XK} {op : Operator}
/-- x op y by the def of x's class; what stands on the right is told by oth; the answer is an object -/
def rOp (C : Addr) (sp : Sp) (E : XK) (oth : V → Hp → Prop) : R2 := fun x y H Q => ∃ a dx fs, x = .ref a ∧ H a = some (.ins C dx fs) ∧ oth y H ∧ sp [x, y] H (fun v H' => ∃ p, v = .ref p ∧ Q (.ref p) H') E
/-- on the right an instance of the same class -/
def likeIt (C : Addr) : V → Hp → Prop := fun y H => ∃ b dy gs, y = .ref b ∧ H b = some (.ins C dy gs)
def intIt : V → Hp → Prop := fun y _ => ∃ i : Int, y = .int i
theorem op_like (F : FnOk X.prog X.w X.K X.mg X.base CX n f fd ps sp) (hs : PySem.W.findIn X.K (.ref C) (PySem.dunder op.info.2) = some (some (.ref f))) (hf : PySem.W.isFn X.K (.ref f) = true) (hc : PySem.W.selfFirst X.K C = true) (hb : L2.Binds X.K fd ps []) (hx : Passes CX X E) (hr : Room n X.A) :
    OpR X (binaryOp op) (rOp C sp E (likeIt C)) := by
  rintro pins s σ H x y u v Q I rx ry ⟨a, dx, fs, rfl, ha, ⟨b, dy, gs, rfl, hb2⟩, hsp⟩
  cases (show u = Value.ref a from rx)
  cases (show v = Value.ref b from ry)
  obtain ⟨mA, J, _⟩ := ins_get I.hok ha
  obtain ⟨mB, L, _⟩ := ins_get I.hok hb2
  obtain ⟨odA, J, _⟩ := J.look
  obtain ⟨odB, L, _⟩ := L.look
  obtain ⟨m, hF⟩ := I.fr
  show wpAny (model X.prog X.w) X.A (binaryOp op (.ref a) (.ref b)) (EP X pins σ Q) X.xe s
  refine PySem.W.binop_K hF I.ok.mod.kin J L.type hc hs hf ?_
  refine wpAny_mono (own_call F hb hx hr rfl I (x := .ref a) (y := .ref b) rfl rfl hsp) (fun r s' h => ?_) fun _ _ z => z
  obtain ⟨z, H', rz, I', p, rfl, q⟩ := h
  cases (show r = Value.ref p from rz)
  exact ⟨.ref p, H', I', rfl, q⟩
theorem op_intR {fo ro rc : Option Value} (F : FnOk X.prog X.w X.K X.mg X.base CX n f fd ps sp) (hs : PySem.W.findIn X.K (.ref C) (PySem.dunder op.info.2) = some (some (.ref f))) (hf : PySem.W.isFn X.K (.ref f) = true) (hc : PySem.W.selfFirst X.K C = true)
    (hrc : PySem.W.findIn X.K (.ref C) (dunderR op.info.2) = some none) (h1 : PySem.W.findIn X.K (.type "int") (PySem.dunder op.info.2) = some fo) (h2 : PySem.W.findIn X.K (.type "int") (dunderR op.info.2) = some ro) (hsub : PySem.W.subIn X.K (.type "int") (.ref C) = some false)
    (hb : L2.Binds X.K fd ps []) (hx : Passes CX X E) (hr : Room n X.A) : OpR X (binaryOp op) (rOp C sp E intIt) := by
  rintro pins s σ H x y u v Q I rx ry ⟨a, dx, fs, rfl, ha, ⟨i, rfl⟩, hsp⟩
  cases (show u = Value.ref a from rx)
  obtain ⟨t, rfl⟩ : ∃ t, v = Value.int i t := ry
  obtain ⟨mA, J, _⟩ := ins_get I.hok ha
  obtain ⟨odA, J, _⟩ := J.look
  obtain ⟨m, hF⟩ := I.fr
  show wpAny (model X.prog X.w) X.A (binaryOp op (.ref a) (.int i t)) (EP X pins σ Q) X.xe s
  refine PySem.W.ksp_binT hF I.ok.mod.kin J (T := "int") rfl hc hs hf hrc (.inl rfl) h1 h2 hsub ?_
  refine wpAny_mono (own_call F hb hx hr rfl I (x := .ref a) (y := .int i) rfl ⟨t, rfl⟩ hsp) (fun r s' h => ?_) fun _ _ z => z
  obtain ⟨z, H', rz, I', p, rfl, q⟩ := h
  cases (show r = Value.ref p from rz)
  exact ⟨.ref p, H', I', rfl, q⟩
end
/-! ### dicts -/
theorem hits_flatA {A : Around} {s : Shared} {ls : List (Key × V)} {vb : List (Key × Value)} (rb : KV ls vb) (fl : ∀ k u, valV ls k = some u → flatV u = true) {ks : List (Key × V)} {va : List (Key × Value)}
    (ra : KV ks va) : (∀ p ∈ ks, flatV p.2 = true) → PySem.W.KeqHits A s vb va (eqKv ks ls) := by
  unfold KV at ra
  induction ra with
  | nil => intro _; exact .nil
  | @cons p q ps qs h t k =>
    intro hp
    obtain ⟨h1, h2⟩ := h
    have rr : RelO (valV ls p.1) (valueAt vb p.1) := rb.val p.1
    obtain ⟨key, v⟩ := q
    have h1' : p.1 = key := h1
    have rest := k fun p' hm => hp p' (List.mem_cons_of_mem _ hm)
    cases e : valV ls p.1 with
    | none =>
      rw [e] at rr
      have hn : valueAt vb key = none := by
        rw [← h1']
        cases hv : valueAt vb p.1 with
        | none => rfl
        | some z => rw [hv] at rr; exact rr.elim
      have hb : eqKv (p :: ps) ls = false := by unfold eqKv; rw [List.all_cons, e]; rfl
      rw [hb]
      exact .miss hn
    | some u =>
      rw [e] at rr
      obtain ⟨y, hy, ry⟩ := rr.some_of
      rw [h1'] at hy
      have hb : eqKv (p :: ps) ls = (eqV p.2 u && eqKv ps ls) := by unfold eqKv; rw [List.all_cons, e]
      rw [hb]
      exact .hit hy (eqAt_V h2 ry (hp p List.mem_cons_self) (fl _ _ e)) rest
/-- a != b of dicts of flat things, any answer -/
def rNeDF : R2 := fun x y H Q => ∃ a b ks ls, x = .ref a ∧ y = .ref b ∧ H a = some (.dK ks) ∧ H b = some (.dK ls) ∧ (∀ p ∈ ks, flatV p.2 = true) ∧ (∀ k u, valV ls k = some u → flatV u = true) ∧ Q (.bl !(ks.length == ls.length && eqKv ks ls)) H
theorem op_neDF {X : Cx} (hu : X.A.units + 64 < cLine) : OpR X (compareOp .NotEq) rNeDF := by
  rintro pins s σ H x y v u Q I rx ry ⟨a, b, ks, ls, rfl, rfl, ha, hb, f1, f2, q⟩
  cases (show v = Value.ref a from rx)
  cases (show u = Value.ref b from ry)
  obtain ⟨_, ya, va, ra, da⟩ := (show ObjOk X.prog X.w H s.heap a (.dK ks) from I.hok a _ ha)
  obtain ⟨_, yb, vb, rb, db⟩ := (show ObjOk X.prog X.w H s.heap b (.dK ls) from I.hok b _ hb)
  have la : ks.length = va.length := by unfold KV at ra; exact ra.length
  have lb : ls.length = vb.length := by unfold KV at rb; exact rb.length
  refine PySem.W.keq_ne (knd := mixKind X.prog X.w) (r := eqKv ks ls) ya yb da db (by omega) (fun _ => hits_flatA rb f2 ra f1) ?_
  rw [← la, ← lb]
  exact ⟨.bl _, H, I, rfl, q⟩
/-! ### an exception without __init__ of its own -/
theorem pmk_bare {X : Cx} {C : Addr} {x : Str} {p pos : Pos} (q : PySem.W.excInitIn X.K C [.type "ValueError", .type "Exception", .type "BaseException", .type "object"] "ValueError.__new__" = true) (hi : PySem.W.findIn X.K (.ref C) "__init__" = some (some (.builtin "ValueError.__init__")))
    (gC : X.mg x = some (.ref C)) (kC : PySem.W.keepIn X.K (.ref C) = true) (r : Raises X (.ref C)) (hg : Gl X x) (hdb : (x == ("__debug__" : Str)) = false := by decide) : PMk X (.Call (.Name x p) [] [] pos) (fun _ H Q => Q (.ref C) none H) := by
  intro pins s σ H Q I h
  refine wpAny_Call_Name_kw (ld_glob I hg gC ?_ hdb)
  refine PySem.W.callWith_K0 (first := []) I.kIn kC ?_
  show wpAny _ _ (call (.ref C) []) _ _ _
  have KI := I.kIn
  obtain ⟨nm, N, qn, bs, bm, hd, sn, sub, ab, col, dd, k0, k1, k2, k3, k5, hC, hT⟩ := PySem.W.excInit_of KI q
  have bare := I.bare
  have hok := I.hok
  obtain ⟨hp, g, d, t, os⟩ := s
  refine PySem.W.call_B F.excBase_ValueError hT hC (PySem.W.looks_findIn KI hi) (Nat.zero_le _) (fun h' k e1 e2 => ?_)
  have nw : hp.get? (hp.objs.size + 1) = none := by
    cases z : hp.get? (hp.objs.size + 1) with
    | none => rfl
    | some o => exact absurd (Heap.lt_size z) (Nat.not_lt.mpr (Nat.le_succ _))
  exact ⟨_, _, _, ⟨hp, g, d, t, os⟩, H, .ref C, none, rfl, I, k, nw, e1, ⟨rfl, rfl⟩, rfl, rfl, hok.gone nw, rfl, bare, r, h⟩
/-! ### a static method by its class's name -/
/-- what the written part says of C.m, a static method around the def at f -/
structure StaM (K : PySem.W.Frag) (C : Addr) (m : Str) (f : Addr) : Prop where
  ty : PySem.W.typeIn K (.ref C) = some (.type "type")
  rd : PySem.W.readsIn K C (.type "type") = true
  sp : PySem.W.specialIn K (.ref C) "__getattribute__" = some (some (.builtin "type.__getattribute__"))
  at_ : ∃ p rest, PySem.W.findCls K (.ref C) (.type "type") m = some (.get (.builtin "staticmethod.__get__") (.ref p) .none (.ref C)) ∧ PySem.W.recIn K p "staticmethod" = some (.ref f :: rest)
  kp : PySem.W.keepIn K (.ref f) = true
def tSt (C : Addr) (sp : Sp) (E : XK) (ta : TE) (t : TA) : TE := fun σ H Q => ta σ H fun x H1 => x = .ref C ∧ t σ H1 fun vs H2 => sp vs H2 Q E
theorem pe_stm {X : Cx} {CX : CXT} {C f : Addr} {m : Str} {fd : FuncData} {ps : List Str} {k : Nat} {sp : Sp} {E : XK} {o e : Expr} {es : List Expr} {pos apos : Pos} {ta : TE} {t : TA} {pl : Sem Bool} (he : PE X o ta) (M : StaM X.K C m f) (F : FnOk X.prog X.w X.K X.mg X.base CX k f fd ps sp) (hr : Room k X.A)
    (hb : L2.Binds X.K fd ps []) (hx : Passes CX X E) (ha : PA X (e :: es) t) (hst : starEach (e :: es) X.env = (false, eval e X.env) :: starEach es X.env := by rfl) (hpl : (backTo pos (starEach es X.env)).any (·.1) = false := by rfl)
    (ht : eval (.Call (.Attribute o m apos) (e :: es) [] pos) X.env = (do
      let cv ← eval o X.env
      standAt apos.atName
      let (f, first) ← holding [cv] (getMethod cv m pl)
      callWith pos f first (backTo pos (starEach (e :: es) X.env)) (backToKw pos (keywordEach [] X.env))) := by rfl) : PE X (.Call (.Attribute o m apos) (e :: es) [] pos) (tSt C sp E ta t) := by
  refine ⟨fun pins s σ H Q I h => ?_⟩
  refine PySem.W.methodCall_KW (pl := pl) (thn (he.run pins s σ H _ I h) fun u s1 ⟨x, H1, I1, rx, ex, q⟩ => ?_) ht
  subst ex
  obtain rfl : u = Value.ref C := rx
  obtain ⟨p, rest, hc, hrec⟩ := M.at_
  obtain ⟨m1, hF⟩ := I1.fr
  refine PySem.W.method_of_cls hF I1.ok.mod.kin M.sp (PySem.W.cls_sm hF I1.ok.mod.kin M.ty M.rd hc hrec rfl ?_)
  have I2 : L2.Inv X pins σ H1 { s1 with toks := s1.toks + 1 } := I1.kept (t' := s1.toks + 1) fun _ _ z => z
  refine PySem.W.callWith_K (first := []) (h₀ := X.base) I1.ok.mod.kin M.kp (thn (ha.run pos pins _ σ H1 _ I2 q) fun us s2 ⟨vs, H2, I3, r, q2⟩ => ⟨I3.kIn, ?_⟩) hst hpl
  exact run_fn (ds := []) (dvs := []) F hr hb .nil hx I3 r (by rw [List.append_nil]; exact q2)
end Own
set_option Elab.async false
set_option linter.all false
set_option maxRecDepth 100000
set_option maxHeartbeats 2000000
/-! try: several clauses, some with a name -/
namespace Own
open PySem PySem.Spec PyProof.Rows L2
theorem int_add {K : PySem.W.Frag} : PySem.W.findIn K (.type "int") (PySem.dunder (Operator.info .Add).2) = some (some (.builtin "int.__add__")) := by
  show PySem.fastLookup "int" _ = _
  kernel_rfl
theorem int_radd {K : PySem.W.Frag} : PySem.W.findIn K (.type "int") (dunderR (Operator.info .Add).2) = some (some (.builtin "int.__radd__")) := by
  show PySem.fastLookup "int" _ = _
  kernel_rfl
/-- an except clause: the class, the slot of its name if it has one, its suite -/
structure Clause where
  ex : Value
  slot : Option Nat
  act : Addr → Value → Option Addr → TS
/-- the ends of a suite behind which a name goes -/
def dropAt (i : Nat) (D : Ends) : Ends where
  nx := fun σ H => D.nx (σ.set i none) H
  rt := D.rt
  bk := fun σ H => D.bk (σ.set i none) H
  ct := fun σ H => D.ct (σ.set i none) H
def suiteOf (k : Clause) (a : Addr) (c : Value) (d : Option Addr) (D : Ends) (σ : L2.St) (H : Hp) : Prop := match k.slot with
  | none => k.act a c d D σ H
  | some i => k.act a c d (dropAt i D) (σ.set i (some (.ref a))) H
/-- the first clause that matches is done; none: the wish without -/
def wCl (K : PySem.W.Frag) (Wo : WX) (D : Ends) : List Clause → WX
  | [] => Wo
  | k :: r => fun c d σ H => ∃ b, PySem.W.exmOne K c k.ex = some b ∧ (b = true → ∀ a, H a = none → suiteOf k a c d D σ H) ∧ (b = false → wCl K Wo D r c d σ H)
def SuiteOk (X : Cx) (st : List Stmt) (ts : Addr → Value → Option Addr → TS) : Prop :=
  ∀ (a : Addr) (oe : Obj) (cls : Value) (d : Option Addr) (pn : List (Addr × Obj)), Zc cls d oe → (∃ fs, oe.data = .fields fs) → PSs (X.suite a ((a, oe) :: pn)) st (ts a cls d)
inductive Clauses (X : Cx) : List ExceptHandler → List Clause → Prop
  | nil : Clauses X [] []
  | plain {x : Str} {c : Value} {ts : Addr → Value → Option Addr → TS} {b : Stmt} {su : List Stmt} {np ps : Pos} {r : List ExceptHandler} {l : List Clause} (hc : Names X x c) (hu : SuiteOk X (b :: su) ts) (hr : Clauses X r l) :
      Clauses X (.ExceptHandler (some (.Name x np)) none (b :: su) ps :: r) (⟨c, none, ts⟩ :: l)
  | named {x n : Str} {i : Nat} {c : Value} {ts : Addr → Value → Option Addr → TS} {b : Stmt} {su : List Stmt} {np ps : Pos} {r : List ExceptHandler} {l : List Clause} (hi : X.N[i]? = some n) (hk : X.env.kindOf n = some .local) (hc : Names X x c) (hu : SuiteOk X (b :: su) ts) (hr : Clauses X r l) :
      Clauses X (.ExceptHandler (some (.Name x np)) (some n) (b :: su) ps :: r) (⟨c, some i, ts⟩ :: l)
section
variable {X : Cx} {pins : List (Addr × Obj)} {σ : L2.St} {H : Hp} {D : Ends} {Wo : WX} {sI s3 : Shared} {a : Addr} {B : Heap} {cls : Value} {d : Option Addr}
/-- what stands when an error has come to the try's clauses -/
structure Come (X : Cx) (pins : List (Addr × Obj)) (σ : L2.St) (H : Hp) (Wo : WX) (sI s3 : Shared) (a : Addr) (B : Heap) (cls : Value) (d : Option Addr) : Prop where
  ok : X.Ok
  stk : X.stack = X.env :: X.outer
  loc : X.env.frame = some X.env.locals
  nd : X.N.Nodup
  tk : Takes X Wo
  was : L2.Inv X pins σ H sI
  low : ∀ b o, sI.heap.get? b = some o → b ∉ frs X.stack → B.get? b = some o
  up : sI.heap.UpToSlots s3.heap
  fly : HandSPX.FlyingZ B (X.env :: X.outer) a (Zc cls d) s3.heap
  free : H a = none
  os : s3.os = sI.os
  bare : AllBare s3.gens
theorem Come.inv (c : Come X pins σ H Wo sI s3 a B cls d) : L2.Inv X pins σ H s3 := c.was.landed c.low c.fly.1 c.up c.os c.bare
theorem Come.on (c : Come X pins σ H Wo sI s3 a B cls d) {h : Heap} (f : HandSPX.FlyingZ B (X.env :: X.outer) a (Zc cls d) h) (u : s3.heap.UpToSlots h) : Come X pins σ H Wo sI { s3 with heap := h } a B cls d :=
  { c with up := c.up.trans u, fly := f }
theorem Come.suite (c : Come X pins σ H Wo sI s3 a B cls d) : ∃ oe fs, s3.heap.get? a = some oe ∧ Zc cls d oe ∧ oe.data = .fields fs ∧ L2.Inv (X.suite a ((a, oe) :: (X.pn ++ pins))) [] σ H s3 := by
  obtain ⟨oe, fs, g1, g2, g3⟩ := c.fly.there
  have off : a ∉ frs (X.env :: X.outer) := fun m => by
    obtain ⟨_, u, g4, no⟩ := c.fly.2.2.1.mem m
    rw [g1] at g4
    exact no fs (by rw [← Option.some.inj g4]; exact g3)
  refine ⟨oe, fs, g1, g2, g3, c.inv.suite g1 g3 c.free (fun z => off ?_) fun m => off ?_⟩
  · exact List.mem_filterMap.mpr ⟨X.env, List.mem_cons_self, by rw [c.loc, z]⟩
  · obtain ⟨e, m1, m2⟩ := List.mem_filterMap.mp m
    exact List.mem_filterMap.mpr ⟨e, List.mem_cons_of_mem _ m1, m2⟩
/-- the clause's class is looked at -/
theorem Come.test (c : Come X pins σ H Wo sI s3 a B cls d) {x : Str} {np : Pos} {k : Value} (hn : Names X x k) {Q E : Value → Shared → Prop} (q : Q k s3) : wpAny (model X.prog X.w) (X.A.mark (some (.ref a))) (eval (.Name x np) X.env) Q E s3 := by
  obtain ⟨oe, fs, _, _, _, J⟩ := c.suite
  obtain ⟨h1, h2, h3 | ⟨h3, h4, h5⟩⟩ := hn
  · exact ld_glob (X := X.suite a ((a, oe) :: (X.pn ++ pins))) J h1 h3 q h2
  · exact ld_blt (X := X.suite a ((a, oe) :: (X.pn ++ pins))) J h1 h3 h4 q h5 h2
theorem Come.match_ (c : Come X pins σ H Wo sI s3 a B cls d) {k : Value} {b : Bool} (e : PySem.W.exmOne X.K cls k = some b) {Q : Bool → Shared → Prop} {E : Value → Shared → Prop} {A : Around} (q : Q b s3) : wpAny (model X.prog X.w) A (excMatches (.ref a) k) Q E s3 := by
  obtain ⟨oe, fs, g1, g2, _, J⟩ := c.suite
  exact (PySem.W.exm_one (M := model X.prog X.w) J.kIn (fun _ _ _ _ kk q => wpAny_typeOf_ref (kk _ _ g1) (by rw [g2.1]; exact q)) e).here q
theorem Come.go (c : Come X pins σ H Wo sI s3 a B cls d) {hds : List ExceptHandler} {l : List Clause} (hh : Clauses X hds l) : wCl X.K Wo D l cls d σ H → wpAny (model X.prog X.w) X.A (handleBy (.ref a) X.env hds) (SP X pins D) X.xe s3 := by
  induction hh with
  | nil =>
    intro w
    refine wpAny_handleBy_nil ?_
    have f := c.fly
    obtain ⟨_, _, _, oe, fs, T, oT, ts, g1, g2, g3, g4, _⟩ := id f
    unfold PySem.passOn
    refine wpAny_bind (wpAny_field g1 g3 g4 ?_)
    rw [if_neg (by simp : ¬ ((Value.ref T == Value.none) = true))]
    have out : wpAny (model X.prog X.w) X.A (setFlight (.ref a) X.env.frame) (fun _ s4 => wpAny (model X.prog X.w) X.A (throw (.ref a) : Sem Flow) (SP X pins D) X.xe s4) X.xe s3 := by
      rw [c.loc]
      refine HandSPX.setFlight_upZ f fun h4 held u4 => wpAny_throw (c.tk _ _ ⟨a, B, sI, pins, σ, H, cls, d, rfl, c.was, c.low, c.up.trans u4, .inr (.inr ?_), c.free, c.os, c.bare, w⟩)
      rw [c.stk]; exact held
    first
      | exact wpAny_bind (wpAny_pure (wpAny_bind out))
      | exact wpAny_bind out
  | @plain x k ts b su np ps r l hc hu hr ih =>
    intro ⟨m, e, yes, no⟩
    refine wpAny_handleBy_cons (codeAny_handlers_test (c.test hc (c.match_ e ?_))) (fun z => by cases z)
    cases m with
    | false => exact ih (no rfl)
    | true =>
      refine codeAny_handlers_suite (HandSPX.lands_againZ c.fly fun h4 f4 u4 => ?_)
      obtain ⟨oe, fs, g1, g2, g3, J⟩ := (c.on f4 u4).suite
      refine wpAny_mono ((hu a oe cls d (X.pn ++ pins) g2 ⟨fs, g3⟩).run [] _ σ H D J (yes rfl a c.free)) (fun fl s6 z => ?_) fun _ _ z => z.elim
      cases fl with
      | ret u =>
        obtain ⟨v, σ6, H6, J6, rv, q⟩ := z
        exact ⟨v, σ6, H6, J6.unsuite c.ok, rv, q⟩
      | next => exact z.imp fun σ6 z => z.imp fun H6 z => ⟨z.1.unsuite c.ok, z.2⟩
      | brk => exact z.imp fun σ6 z => z.imp fun H6 z => ⟨z.1.unsuite c.ok, z.2⟩
      | cont => exact z.imp fun σ6 z => z.imp fun H6 z => ⟨z.1.unsuite c.ok, z.2⟩
  | @named x n i k ts b su np ps r l hi hk hc hu hr ih =>
    intro ⟨m, e, yes, no⟩
    refine wpAny_handleBy_cons (codeAny_handlers_test (c.test hc (c.match_ e ?_))) (fun z => by cases z)
    cases m with
    | false => exact ih (no rfl)
    | true =>
      refine codeAny_handlers_suite_as (HandSPX.lands_againZ c.fly fun h4 f4 u4 => ?_)
      obtain ⟨oe, fs, g1, g2, g3, J⟩ := (c.on f4 u4).suite
      refine store_ok (X := X.suite a ((a, oe) :: (X.pn ++ pins))) (v := .ref a) J c.nd hi (.inl hk) rfl (fun s5 J5 => ?_) (.inr hk)
      refine wpAny_mono ((hu a oe cls d (X.pn ++ pins) g2 ⟨fs, g3⟩).run [] s5 _ H (dropAt i D) J5 (yes rfl a c.free)) (fun fl s6 z => ?_) fun _ _ z => z.elim
      have gone : ∀ {σ6 : L2.St} {H6 : Hp} {Q : Shared → Prop}, L2.Inv (X.suite a ((a, oe) :: (X.pn ++ pins))) [] σ6 H6 s6 → (∀ s7, L2.Inv X pins (σ6.set i none) H6 s7 → Q s7) →
          wpAny (model X.prog X.w) X.A (do bindName X.env n .none; unbindBehindTheSuite X.env n ps) (fun _ s7 => Q s7) X.xe s6 := fun J6 q => gone_ok (J6.unsuite c.ok) c.nd hi hk q
      cases fl with
      | ret u =>
        obtain ⟨v, σ6, H6, J6, rv, q⟩ := z
        exact gone J6 fun s7 J7 => ⟨v, _, H6, J7, rv, q⟩
      | next => obtain ⟨σ6, H6, J6, q⟩ := z; exact gone J6 fun s7 J7 => ⟨_, H6, J7, q⟩
      | brk => obtain ⟨σ6, H6, J6, q⟩ := z; exact gone J6 fun s7 J7 => ⟨_, H6, J7, q⟩
      | cont => obtain ⟨σ6, H6, J6, q⟩ := z; exact gone J6 fun s7 J7 => ⟨_, H6, J7, q⟩
end
/-- try: body except X as n: .. except Y: .. -/
theorem ps_clauses {X : Cx} {body : List Stmt} {h0 : ExceptHandler} {hds : List ExceptHandler} {l : List Clause} {pos : Pos} {tb : WX → TS} {Wo : WX} (hs : X.stack = X.env :: X.outer) (hf : X.env.frame = some X.env.locals) (nd : X.N.Nodup) (tk : Takes X Wo)
    (hb : ∀ (W : WX) (pn : List (Addr × Obj)) (xe : Value → Shared → Prop), Takes (X.tr pn xe) W → PassesOwn (model X.prog X.w) X.A X.env xe → PSs (X.tr pn xe) body (tb W))
    (hh : Clauses X (h0 :: hds) l) : PS X (.Try body (h0 :: hds) [] [] pos) (fun D σ H => tb (wCl X.K Wo D l) D σ H) := by
  refine ⟨fun pins s σ H D I h => ?_⟩
  have okX := I.ok
  refine wpAny_Try_except (wpAny_mono ((hb (wCl X.K Wo D l) (X.pn ++ pins) (fun e s1 => wpAny (model X.prog X.w) X.A (noteFrame e X.env) (fun _ s2 => wpAny (model X.prog X.w) X.A (setFlight e none) (fun _ s3 =>
    wpAny (model X.prog X.w) X.A (handleBy e X.env (h0 :: hds)) (SP X pins D) X.xe s3) X.xe s2) X.xe s1) (fun u s1 z => ?_) PassesOwn.looking).run [] s σ H D (I.toTry _) h) (fun fl s1 z => ?_) fun e s1 z => z)
  · obtain ⟨a, B, sI, ps, σ1, H1, cls, d, rfl, J, low, up, sky, free, os, bare, w⟩ := z
    have K1 := J.ofTry okX
    have sk : Sky B (X.env :: X.outer) a (Zc cls d) X.env.locals s1.heap := by rw [← hs]; exact sky
    show wpAny (model X.prog X.w) X.A (noteFrame (.ref a) X.env) _ _ _
    refine Sky.land Zc.steady (by rw [okX.frames, hs]) hf sk fun h3 f3 u3 => ?_
    exact Come.go (sI := sI) (s3 := { s1 with heap := h3 }) (B := B) (Wo := Wo) ⟨okX, hs, hf, nd, tk, K1, low, up.trans u3, f3, free, os, bare⟩ hh w
  · cases fl with
    | next =>
      obtain ⟨σ1, H1, J, q⟩ := z
      exact wpAny_execs_nil ⟨σ1, H1, J.ofTry okX, q⟩
    | ret u =>
      obtain ⟨v, σ1, H1, J, rv, q⟩ := z
      exact ⟨v, σ1, H1, J.ofTry okX, rv, q⟩
    | brk => obtain ⟨σ1, H1, J, q⟩ := z; exact ⟨σ1, H1, J.ofTry okX, q⟩
    | cont => obtain ⟨σ1, H1, J, q⟩ := z; exact ⟨σ1, H1, J.ofTry okX, q⟩
end Own
set_option Elab.async false
set_option linter.all false
set_option maxRecDepth 100000
set_option maxHeartbeats 2000000
namespace Own
open PySem PySem.Spec PyProof.Rows L2
/-! ### o[i] with an own __getitem__ -/
def tItm (C : Addr) (sp : Sp) (E : XK) (ta tb : TE) : TE := tOp (fun x y H Q => ∃ a dx fs, x = V.ref a ∧ H a = some (.ins C dx fs) ∧ sp [x, y] H Q E) ta tb
theorem pe_itm {X : Cx} {CX : CXT} {C f : Addr} {fd : FuncData} {ps : List Str} {n : Nat} {sp : Sp} {E : XK} {a b : Expr} {ta tb : TE} {pos : Pos} (ha : PE X a ta) (F : FnOk X.prog X.w X.K X.mg X.base CX n f fd ps sp)
    (hs : PySem.W.findIn X.K (.ref C) "__getitem__" = some (some (.ref f))) (hfi : PySem.W.fnIn X.K f = true) (hf : PySem.W.isFn X.K (.ref f) = true) (hb : L2.Binds X.K fd ps []) (hx : Passes CX X E) (hr : Room (n + 1) X.A) (hp : PE X b tb)
    (hsl : ∀ o i, subscripted b true o i = runValue (.builtin "lifetime.subscript" ⟨[o, i], []⟩)) : PE X (.Subscript a b pos) (tItm C sp E ta tb) := by
  refine ⟨fun pins s σ H Q I h => ?_⟩
  refine Subscript_ (binT ha hp I h fun v u s2 x y H2 I2 rx ry q => ?_)
  obtain ⟨p, dx, fs, ex, hp2, hsp⟩ := q
  subst ex
  cases (show v = Value.ref p from rx)
  obtain ⟨mA, J, _⟩ := ins_get I2.hok hp2
  obtain ⟨od, J, _⟩ := J.look
  obtain ⟨m, hF⟩ := I2.fr
  refine PySem.W.sub_K hF I2.ok.mod.kin J hs hfi hf ?_ (hsl _ _)
  refine wpAny_mono (own_call F hb hx hr.in1 rfl I2 (x := .ref p) rfl ry hsp) (fun w s' h => ?_) fun _ _ h => h
  obtain ⟨z, H', rz, I', q⟩ := h
  exact ⟨z, H', I', rz, q⟩
/-! ### a, b = a list or a tuple -/
theorem pg_lt {X : Cx} {pos : Pos} {es : List Expr} {k : Nat} {t : TGs} {n : Nat} (hc : X.calm = true) (h : PGs X es t)
    (hn : (assignEach es X.env).length = n := by rfl) (hst : (assignEach es X.env).findIdx? (·.1) = none := by rfl) : PG X (.Tuple es k pos) (fun v σ H Q => gLst X.K n t v σ H Q ∨ gTup X.K n t v σ H Q) := by
  refine ⟨fun pins s σ H v u Q I r hw => ?_⟩
  rcases hw with hw | hw
  · exact (pg_lst hc h hn hst).run pins s σ H v u Q I r hw
  · exact (pg_tup hc h hn hst).run pins s σ H v u Q I r hw
end Own
namespace Own
open PySem PySem.Spec PyProof.Rows L2
def rIxLT (K : PySem.W.Frag) : R2 := fun x y H Q => rIxL K x y H Q ∨ rIxT K x y H Q
theorem ixLtOf {X : Cx} {K : PySem.W.Frag} (h : X.K = K) : IxR X (rIxLT K) := h ▸ ix_list.or ix_tup
end Own
set_option Elab.async false
set_option linter.all false
set_option maxRecDepth 100000
set_option maxHeartbeats 2000000
/-! == and != of own instances inside of a comprehension -/
namespace Own
open PySem PySem.Spec PyProof.Rows L2
variable {X : Cx} {CX : CXT} {K : PySem.W.Frag} {C f : Addr} {fd : FuncData} {ps : List Str} {n : Nat} {sp : Sp} {E : XK}
theorem eqOwnOf (hK : X.K = K) (F : FnOk X.prog X.w X.K X.mg X.base CX n f fd ps sp) (hs : PySem.W.findIn X.K (.ref C) "__eq__" = some (some (.ref f))) (hf : PySem.W.isFn X.K (.ref f) = true) (hb : L2.Binds X.K fd ps []) (hx : Passes CX X E) (hr : Room n X.A) :
    OpR X (compareOp .Eq) (rOwn K C sp E false) := by
  subst hK
  exact op_eqOwn F hs hf hb hx hr
theorem neOwnOf (hK : X.K = K) (F : FnOk X.prog X.w X.K X.mg X.base CX n f fd ps sp) (hne : PySem.W.findIn X.K (.ref C) "__ne__" = some (some (.builtin "object.__ne__"))) (hm : PySem.W.mroIn X.K C (.type "object") = some true)
    (hs : PySem.W.findIn X.K (.ref C) "__eq__" = some (some (.ref f))) (hf : PySem.W.isFn X.K (.ref f) = true) (hb : L2.Binds X.K fd ps []) (hx : Passes CX X E) (hr : Room (n + 1) X.A) :
    OpR X (compareOp .NotEq) (rOwn K C sp E true) := by
  subst hK
  exact op_neOwn F hne hm hs hf hb hx hr
end Own
set_option Elab.async false
set_option linter.all false
set_option maxRecDepth 100000
set_option maxHeartbeats 3200000
/-! set(xs) of texts, no two alike; its len -/
namespace Own
open PySem PySem.Spec PyProof.Rows L2
section
variable {prog : Program} {w : World} {A : Around} {E : Value → Shared → Prop} {s : Shared}
theorem memS {xs : List Str} {i : Nat} {x : Str} (e : xs[i]? = some x) (k : Str) : (decide (k ∈ xs.take i) || decide (k = x)) = decide (k ∈ xs.take (i + 1)) := by
  rw [List.take_succ, e, Bool.eq_iff_iff]
  simp [List.mem_append]
theorem fill_texts {I S : Addr} {fp wr : List Addr} {G : Array GenState → Array GenState → Prop} {n : Nat} {P : Nat → Value → Prop} {St : Nat → Shared → Prop} {R : Result → Shared → Prop} (W : WalksS prog w A.in1 I fp wr G n P St) (off : S ∉ fp)
    {xs : List Str} (len : xs.length = n) (nd : xs.Nodup) (few : n ≤ 64) (val : ∀ i v, P i v → ∃ x t, xs[i]? = some x ∧ v = .str x t) (out : ∀ s', Moved (S :: wr) G s s' → s'.heap.SetOf (strKind prog w) S (fun k => decide (k ∈ xs)) n → R (.ok (.ret .none)) s') :
    ∀ (m i : Nat) (z : Shared), i + m = n → St i z → z.heap.SetOf (strKind prog w) S (fun k => decide (k ∈ xs.take i)) i → (∀ z', Moved (S :: wr) G z z' → Moved (S :: wr) G s z') → codeAny (model prog w) A (.builtin "set.update.loop" ⟨[.ref S, .ref I], []⟩) R z
  | 0, i, z, hi, st, hs, back => by
    obtain rfl : i = n := hi
    refine codeAny_builtin F.entry_set_update_loop ?_
    rw [Around.under_plainId F.plain_set_update_loop _]
    refine wpAny_bind (m := pyNext (.ref I)) (W.done z _ _ st fun z' mv => wpAny_pure (out z' (back _ (mv.mono fun b hb => .tail _ hb)) ?_))
    obtain ⟨o, es, ep, t, ho, rest⟩ := hs
    rw [List.take_of_length_le (Nat.le_of_eq len)] at rest
    exact ⟨o, es, ep, t, mv.heap S _ (fun y => off (W.sub _ y)) ho, rest⟩
  | m + 1, i, z, hi, st, hs, back => by
    have lt : i < n := by omega
    refine codeAny_builtin F.entry_set_update_loop ?_
    rw [Around.under_plainId F.plain_set_update_loop _]
    refine wpAny_bind (m := pyNext (.ref I)) (W.item i z _ _ lt st fun v z' hp st' mv => ?_)
    obtain ⟨x, t, ex, rfl⟩ := val i v hp
    have old : z'.heap.SetOf (strKind prog w) S (fun k => decide (k ∈ xs.take i)) i := by
      obtain ⟨o, es, ep, tb, ho, rest⟩ := hs
      exact ⟨o, es, ep, tb, mv.heap S _ (fun y => off (W.sub _ y)) ho, rest⟩
    refine wpAny_bind (wpAny_holding (m := setAdd S (.str x t)) (wpAny_holding (wpAny_bind ((strKind prog w).pyHash (k := x) (strKind_is _ _ _ _) ?_))))
    refine wpAny_setAddHashed_of (knd := strKind prog w) (s := { z' with toks := z'.toks + 1 }) (strKind_is _ _ _ _) rfl old (by unfold scanBound; omega) fun h' only more => ?_
    have il : i < xs.length := by omega
    have fresh : x ∉ xs.take i := fun y => by
      obtain ⟨j, hj, e⟩ := List.getElem_of_mem y
      rw [List.length_take] at hj
      rw [List.getElem_take] at e
      rw [List.getElem?_eq_getElem il] at ex
      have := (List.getElem_inj nd).mp (e.trans (Option.some.inj ex).symm)
      omega
    have now : h'.SetOf (strKind prog w) S (fun k => decide (k ∈ xs.take (i + 1))) (i + 1) := SetOf_congr more (fun k => memS ex k) (by rw [decide_eq_false fresh]; rfl)
    refine wpAny_pure ⟨plainId_quiet F.plain_set_update_loop _, fill_texts W off len nd few val out m (i + 1) _ (by omega) (W.frame _ z' _ _ st' (Nat.le_succ _) fun b hb o e => ?_) now fun z2 mv2 => back _ (Moved.trans W.gtrans ((mv.mono fun b hb => .tail _ hb).then_heap (Nat.le_succ _) fun b o hb e => ?_) mv2)⟩
    · exact (only.2 b fun y => off (y ▸ hb)).trans e
    · exact (only.2 b fun y => hb (y ▸ .head _)).trans e
abbrev newSet (led : Bool) : Obj := { cls := .type "set", dict := none, data := .set #[] 0 (.fresh 0 0 led) }
/-- set(a): what is left is its __init__ -/
theorem set_called {a : Value} {Q : Value → Shared → Prop}
    (go : ∀ led : Bool, wpAny (model prog w) A.in1.in1 (Builtin.«set.__init__» ⟨[.ref s.heap.objs.size, a], []⟩) (fun fin z => match fin with | .done f => wants (fun r z => r = .none ∧ Q (.ref s.heap.objs.size) z) E (.ok f) z | .again c => c.quiet = true ∧ codeAny (model prog w) A.in1 c (wants (fun r z => r = .none ∧ Q (.ref s.heap.objs.size) z) E) z)
      (fun e z => wants (fun r z => r = .none ∧ Q (.ref s.heap.objs.size) z) E (.error e) z) { s with heap := s.heap.push (newSet led) }) : wpAny (model prog w) A (call (.type "set") [a]) Q E s := by
  obtain ⟨_, _, q1⟩ := F.called_set.mro
  have q2 := F.called_set.made
  have q3 := F.called_set.sub
  refine wpAny_call (codeAny_of_tree (show wpAny _ _ (callAny (.type "set") _) _ _ _ from wpAny_pure ⟨Code.quiet_builtin _ (by decide +kernel), codeAny_builtin F.entry_type_call ?_⟩))
  rw [Around.under_plain (weight_type_call_type "set" [a] []) rfl]
  have q4 := F.called_set.notType
  have q5 := F.called_set.canCreate
  have q6 := F.typeCall_set_1 a
  repeat (any_goals (first | assumption | wp_step))
  refine codeAny_mono (code_set_new_1 a (E := E) (Q₁ := fun ob z => ∃ led : Bool, ob = .ref s.heap.objs.size ∧ z = { s with heap := s.heap.push (newSet led) }) fun led => ⟨led, rfl, rfl⟩) fun r z hz => ?_
  match r, hz with
  | .error e, hz => exact hz
  | .ok (.ret ob), ⟨led, e1, e2⟩ =>
    subst e1
    subst e2
    have ty : Shared.TypeIs { s with heap := s.heap.push (newSet led) } (.ref s.heap.objs.size) "set" := ⟨_, Heap.get?_push_size _ rfl, rfl⟩
    have q7 := F.called_set.init.lookup
    have q8 := F.called_set.init.bind (.ref s.heap.objs.size)
    repeat (any_goals (first | assumption | wp_step))
    refine codeAny_mono (codeAny_call_builtin F.called_set.init.plain F.entry_set_init (check_set_init_1 ty (go led))) fun r2 z2 hz2 => ?_
    match r2, hz2 with
    | .error e, hz2 => exact hz2
    | .ok (.ret v), ⟨e1, hq⟩ =>
      subst e1
      repeat (any_goals (first | assumption | wp_step))
    | .ok .next, hz2 => exact hz2.elim
    | .ok .brk, hz2 => exact hz2.elim
    | .ok .cont, hz2 => exact hz2.elim
  | .ok .next, hz => exact hz.elim
  | .ok .brk, hz => exact hz.elim
  | .ok .cont, hz => exact hz.elim
theorem made_texts {l : Addr} {items : Array Value} {xs : List Str} {Q : Value → Shared → Prop} (hh : A.handled = none) (hl : s.heap.IsList l items ∨ s.heap.IsTuple l items) (hi : StrsAre items.toList xs) (nd : xs.Nodup) (few : xs.length ≤ 64)
    (h : ∀ (h' : Heap) (tk : Nat), h'.SetOf (strKind prog w) s.heap.objs.size (fun k => decide (k ∈ xs)) xs.length → (∀ b o, s.heap.get? b = some o → h'.get? b = some o) → Q (.ref s.heap.objs.size) { s with heap := h', toks := tk }) :
    wpAny (model prog w) A (call (.type "set") [.ref l]) Q E s := by
  have sz : xs.length = items.size := by rw [← StrsAre.len_eq hi, Array.length_toList]
  have val : ∀ (i : Nat) (v : Value), items[i]? = some v → ∃ x t, xs[i]? = some x ∧ v = .str x t := fun i v hv => by
    have lt : i < xs.length := by
      have := (Array.getElem?_eq_some_iff.mp hv).1
      omega
    obtain ⟨t, e⟩ := SS.strs_at hi i v (by rw [Array.getElem?_toList]; exact hv)
    refine ⟨xs[i], t, List.getElem?_eq_getElem lt, ?_⟩
    rw [e, List.getD_eq_getElem?_getD, List.getElem?_eq_getElem lt]; rfl
  refine set_called fun led => ?_
  have n3 : A.in1.in1.in1.handled = none := by simp [hh]
  rcases hl with hl | hl
  · have q1 := F.sub_list_set
    have q2 := F.sub_list_frozenset
    have q3 : (Value.type "list" == Value.type "dict") = false := by decide
    obtain ⟨ob, ho, hc, nl, hd⟩ := hl
    obtain ⟨cl, od, da, sl⟩ := ob
    dsimp only at hc hd
    subst hc
    subst hd
    have lo := Heap.lt_size ho
    have ho2 : (s.heap.push (newSet led)).get? l = some { cls := .type "list", dict := od, data := .seq items nl, slots := sl } := Heap.get?_push_of_some _ ho
    have at_ : (s.heap.push (newSet led)).IsList l items := ⟨_, ho2, rfl, nl, rfl⟩
    unfold Builtin.«set.__init__» noKeywords Builtin.Frozenset.updateFrom
    generalize hPI : pyIter = PI
    wp_walk
    subst hPI
    refine wpAny_pyIter_list at_ (wpAny_bind (wpAny_runValue ?_))
    have off : l ≠ (s.heap.push (newSet led)).objs.size := by rw [Heap.size_push]; exact Nat.ne_of_lt (Nat.lt_succ_of_lt lo)
    have off2 : s.heap.objs.size ∉ [(s.heap.push (newSet led)).objs.size, l] := by
      rw [Heap.size_push]
      exact fun m => (List.mem_cons.mp m).elim (Nat.ne_of_lt (Nat.lt_succ_self _)) fun m => Nat.ne_of_gt lo (List.mem_singleton.mp m)
    refine fill_texts ((Walks.list n3 _ l off items).toS) off2 sz nd (by omega) val (fun z' mv hz' => ?_) _ 0 _ (Nat.zero_add _) ⟨⟨_, Heap.get?_push_size _ rfl, rfl, rfl⟩, at_.push _⟩ ?_ fun _ mv => mv
    · obtain ⟨h', g', d', tk', os'⟩ := z'
      obtain rfl : g' = s.gens := mv.gens
      obtain rfl : d' = s.drawn := mv.drawn
      obtain rfl : os' = s.os := mv.os
      show wpAny _ _ _ _ _ _
      refine wpAny_pure ?_
      show wpAny _ _ (ret Value.none) _ _ _
      refine wpAny_pure ⟨rfl, h h' tk' (by rw [sz]; exact hz') fun b o e => ?_⟩
      have lb := Heap.lt_size e
      refine mv.heap b o (fun m => ?_) (Heap.get?_push_of_some _ (Heap.get?_push_of_some _ e))
      rcases List.mem_cons.mp m with m | m
      · exact Nat.ne_of_lt lb m
      · rw [Heap.size_push] at m
        exact Nat.ne_of_lt (Nat.lt_succ_of_lt lb) (List.mem_singleton.mp m)
    · have got : ((s.heap.push (newSet led)).push { cls := .type "list_iterator", data := .fields #[.ref l, .int 0 0] }).get? s.heap.objs.size = some (newSet led) := Heap.get?_push_of_some _ (Heap.get?_push_size _ rfl)
      exact SetOf_congr ((setObjOf_fresh (knd := strKind prog w) led).setOf got (by unfold scanBound; omega)) (fun k => by simp) rfl
  · have q1 := F.sub_tuple_set
    have q2 := F.sub_tuple_frozenset
    have q3 : (Value.type "tuple" == Value.type "dict") = false := by decide
    obtain ⟨ob, ho, hc, nl, hd⟩ := hl
    obtain ⟨cl, od, da, sl⟩ := ob
    dsimp only at hc hd
    subst hc
    subst hd
    have lo := Heap.lt_size ho
    have ho2 : (s.heap.push (newSet led)).get? l = some { cls := .type "tuple", dict := od, data := .seq items nl, slots := sl } := Heap.get?_push_of_some _ ho
    have at_ : (s.heap.push (newSet led)).IsTuple l items := ⟨_, ho2, rfl, nl, rfl⟩
    unfold Builtin.«set.__init__» noKeywords Builtin.Frozenset.updateFrom
    generalize hPI : pyIter = PI
    wp_walk
    subst hPI
    refine wpAny_pyIter_tuple at_ (wpAny_bind (wpAny_runValue ?_))
    have off : l ≠ (s.heap.push (newSet led)).objs.size := by rw [Heap.size_push]; exact Nat.ne_of_lt (Nat.lt_succ_of_lt lo)
    have off2 : s.heap.objs.size ∉ [(s.heap.push (newSet led)).objs.size, l] := by
      rw [Heap.size_push]
      exact fun m => (List.mem_cons.mp m).elim (Nat.ne_of_lt (Nat.lt_succ_self _)) fun m => Nat.ne_of_gt lo (List.mem_singleton.mp m)
    refine fill_texts ((Walks.tuple n3 _ l off items).toS) off2 sz nd (by omega) val (fun z' mv hz' => ?_) _ 0 _ (Nat.zero_add _) ⟨⟨_, Heap.get?_push_size _ rfl, rfl, rfl⟩, at_.push _⟩ ?_ fun _ mv => mv
    · obtain ⟨h', g', d', tk', os'⟩ := z'
      obtain rfl : g' = s.gens := mv.gens
      obtain rfl : d' = s.drawn := mv.drawn
      obtain rfl : os' = s.os := mv.os
      show wpAny _ _ _ _ _ _
      refine wpAny_pure ?_
      show wpAny _ _ (ret Value.none) _ _ _
      refine wpAny_pure ⟨rfl, h h' tk' (by rw [sz]; exact hz') fun b o e => ?_⟩
      have lb := Heap.lt_size e
      refine mv.heap b o (fun m => ?_) (Heap.get?_push_of_some _ (Heap.get?_push_of_some _ e))
      rcases List.mem_cons.mp m with m | m
      · exact Nat.ne_of_lt lb m
      · rw [Heap.size_push] at m
        exact Nat.ne_of_lt (Nat.lt_succ_of_lt lb) (List.mem_singleton.mp m)
    · have got : ((s.heap.push (newSet led)).push { cls := .type "tuple_iterator", data := .fields #[.ref l, .int 0 0] }).get? s.heap.objs.size = some (newSet led) := Heap.get?_push_of_some _ (Heap.get?_push_size _ rfl)
      exact SetOf_congr ((setObjOf_fresh (knd := strKind prog w) led).setOf got (by unfold scanBound; omega)) (fun k => by simp) rfl
end
/-- set(xs), only for its len: a list or a tuple of texts, no two alike -/
def tLenTexts (K : PySem.W.Frag) (ta : TE) : TE := fun σ H Q => ta σ H fun x H1 => ∃ l, ∃ xs : List Str, x = .ref l ∧ (SqL K H1 l (xs.map V.str) ∨ SqT K H1 l (xs.map V.str)) ∧ xs.Nodup ∧ xs.length ≤ 64 ∧ Q (.int xs.length) H1
theorem pe_lenTexts {X : Cx} {a : Expr} {ta : TE} {p p2 q pos : Pos} (hc : X.calm = true) (hg : Gl X "len") (hm : X.mg "len" = none) (hg2 : Gl X "set") (hm2 : X.mg "set" = none) (ha : PE X a ta)
    (na : starEach [a] X.env = (false, eval a X.env) :: starEach [] X.env := by rfl) : PE X (.Call (.Name "len" p) [.Call (.Name "set" p2) [a] [] q] [] pos) (tLenTexts X.K ta) := by
  refine ⟨fun pins s σ H Q I h => Call_ (ld_blt I hg hm boot_len ?_)⟩
  refine callWith_builtin1 (args_cons (Call_ (ld_blt I hg2 hm2 boot_set ?_)) rfl) rfl rfl
  refine callWith_type1 (args_cons (thn (ha.run pins s σ H _ I h) fun v z ⟨x, H1, J, r1, q1⟩ => args_nil ?_) na) na rfl
  obtain ⟨l, xs, ex, hq, nd, few, q1⟩ := q1
  subst ex
  cases (show v = Value.ref l from r1)
  have fin : ∀ (h' : Heap) (tk : Nat), h'.SetOf (strKind X.prog X.w) z.heap.objs.size (fun k => decide (k ∈ xs)) xs.length → (∀ b o, z.heap.get? b = some o → h'.get? b = some o) →
      wpAny (model X.prog X.w) X.A (spliced (backTo pos (starEach [] X.env))) (fun vs y => wpAny (model X.prog X.w) X.A (call (.builtin "len") (Value.ref z.heap.objs.size :: vs)) (EP X pins σ Q) X.xe y) X.xe { z with heap := h', toks := tk } := fun h' tk hS hk => by
    refine args_nil ?_
    obtain ⟨o, es, ep, t, ho, hex, hd, _, _, _, hf, hn⟩ := hS
    have J2 : L2.Inv X pins σ H1 { z with heap := h', toks := tk } := J.kept fun b o e => hk b o e
    exact call_len_set ho hex hd hf (by rw [hn] <;> omega) ⟨.int xs.length, H1, J2.tok _, ⟨_, by rw [hn]⟩, q1⟩
  rcases hq with hq | hq
  · obtain ⟨its, r, pl, _⟩ := J.list hq
    exact made_texts (J.ok.hd hc) (.inl pl.isList) (by simpa using L2.strsAre_of r) nd few fin
  · obtain ⟨its, r, pl, _⟩ := J.tuple hq
    exact made_texts (J.ok.hd hc) (.inr pl) (by simpa using L2.strsAre_of r) nd few fin
end Own
set_option Elab.async false
set_option linter.all false
set_option maxRecDepth 100000
set_option maxHeartbeats 2000000
/-! == of dicts whose values are data -/
namespace Own
open PySem PySem.Spec PyProof.Rows L2
def dfind (ls : List (Key × PyData)) (k : Key) : Option PyData := (ls.find? fun p => decide (p.1 = k)).map (·.2)
def eqKD (ks ls : List (Key × PyData)) : Bool := ks.all fun p => match dfind ls p.1 with | some u => PyData.eqv p.2 u | none => false
def DVal (K : PySem.W.Frag) (H : Hp) (kv : Key × V) (kd : Key × PyData) : Prop := kv.1 = kd.1 ∧ Dp K H kv.2 kd.2 ∧ SeqAt.shaped kd.2 = true ∧ kd.2.depth ≤ 8
theorem dval_find {K : PySem.W.Frag} {H : Hp} (k : Key) : ∀ {ls : List (Key × V)} {ds : List (Key × PyData)}, Paired (DVal K H) ls ds → (valV ls k = none ∧ dfind ds k = none) ∨ ∃ v d, valV ls k = some v ∧ dfind ds k = some d ∧ Dp K H v d ∧ SeqAt.shaped d = true
  | [], [], .nil => .inl ⟨rfl, rfl⟩
  | kv :: ls, kd :: ds, .cons h t => by
    by_cases e : kv.1 = k
    · exact .inr ⟨kv.2, kd.2, valV_pos e, by unfold dfind; rw [List.find?_cons_of_pos (by rw [← h.1]; exact decide_eq_true e)]; rfl, h.2.1, h.2.2.1⟩
    · have e2 : dfind (kd :: ds) k = dfind ds k := by unfold dfind; rw [List.find?_cons_of_neg (by rw [← h.1]; simpa using e)]
      rw [valV_neg e, e2]
      exact dval_find k t
theorem hits_data {X : Cx} {pins : List (Addr × Obj)} {σ : L2.St} {H : Hp} {s : Shared} (I : L2.Inv X pins σ H s) {A : Around} (hu : A.units + 8 < cLine) {ls : List (Key × V)} {lsd : List (Key × PyData)} {vb : List (Key × Value)} (rb : KV ls vb) (fl : Paired (DVal X.K H) ls lsd) {ks : List (Key × V)} {va : List (Key × Value)}
    (ra : KV ks va) : ∀ {ksd : List (Key × PyData)}, Paired (DVal X.K H) ks ksd → PySem.W.KeqHitsP X.prog X.w A s vb va (eqKD ksd lsd) := by
  unfold KV at ra
  induction ra with
  | nil => intro ksd h; cases h; exact .nil
  | @cons p q ps qs h t k =>
    intro ksd hk
    cases hk with
    | @cons _ kd _ ds hd ht =>
      obtain ⟨h1, h2⟩ := h
      obtain ⟨key, v⟩ := q
      have h1' : p.1 = key := h1
      have rest := k ht
      have rr : RelO (valV ls p.1) (valueAt vb p.1) := rb.val p.1
      have e0 : eqKD (kd :: ds) lsd = ((match dfind lsd kd.1 with | some u => PyData.eqv kd.2 u | none => false) && eqKD ds lsd) := rfl
      rw [e0, ← hd.1]
      rcases dval_find p.1 fl with ⟨e1, e2⟩ | ⟨u, d, e1, e2, hp, hs⟩
      · rw [e1] at rr
        rw [e2]
        refine .miss ?_
        rw [← h1']
        cases hv : valueAt vb p.1 with
        | none => rfl
        | some z => rw [hv] at rr; exact rr.elim
      · rw [e1] at rr
        rw [e2]
        obtain ⟨y, hy, ry⟩ := rr.some_of
        rw [h1'] at hy
        obtain ⟨as, r1⟩ := Dp.reads I kd.2 p.2 v hd.2.1 h2
        obtain ⟨bs, r2⟩ := Dp.reads I d u y hp ry
        refine .hit hy (SeqAt.EqAt.eqP (b := PyData.eqv kd.2 d) ?_) rest
        exact SeqAt.eqAt_reads kd.2 d A s v y as bs r1 r2 (SeqAt.canLay_of_shaped hd.2.2.1) (SeqAt.canLay_of_shaped hs) (by have := hd.2.2.2; have : min kd.2.depth d.depth ≤ kd.2.depth := Nat.min_le_left _ _; omega)
def rEqDD (K : PySem.W.Frag) : R2 := fun x y H Q => ∃ a b ks ls ksd lsd, x = .ref a ∧ y = .ref b ∧ H a = some (.dK ks) ∧ H b = some (.dK ls) ∧ Paired (DVal K H) ks ksd ∧ Paired (DVal K H) ls lsd ∧ Q (.bl (ks.length == ls.length && eqKD ksd lsd)) H
theorem op_eqDD {X : Cx} (hu : X.A.units + 64 < cLine) : OpR X (compareOp .Eq) (rEqDD X.K) := by
  intro pins s σ H x y v u Q I rx ry ⟨a, b, ks, ls, ksd, lsd, ex, ey, ha, hb, f1, f2, q⟩
  subst ex
  subst ey
  cases (show v = Value.ref a from rx)
  cases (show u = Value.ref b from ry)
  obtain ⟨_, ya, va, ra, da⟩ := (show ObjOk X.prog X.w H s.heap a (.dK ks) from I.hok a _ ha)
  obtain ⟨_, yb, vb, rb, db⟩ := (show ObjOk X.prog X.w H s.heap b (.dK ls) from I.hok b _ hb)
  have la : ks.length = va.length := by unfold KV at ra; exact ra.length
  have lb : ls.length = vb.length := by unfold KV at rb; exact rb.length
  refine PySem.W.rcP_dicts (knd := mixKind X.prog X.w) (r := eqKD ksd lsd) ya yb da db (by omega) (fun _ => hits_data I (A := X.A.in1) (by show X.A.units + 1 + 8 < cLine; omega) rb f2 ra f1) _ _ ?_
  rw [← la, ← lb]
  exact ⟨.bl _, H, I, rfl, q⟩
end Own
set_option Elab.async false
set_option linter.all false
set_option maxRecDepth 100000
set_option maxHeartbeats 2000000
/-! x in o with an own __contains__ -/
namespace Own
open PySem PySem.Spec PyProof.Rows L2
def rInOwn (C : Addr) (sp : Sp) (E : XK) : R2 := fun x y H Q => ∃ a dx fs, y = .ref a ∧ H a = some (.ins C dx fs) ∧ sp [y, x] H (fun v H' => ∃ b : Bool, v = .bl b ∧ Q (.bl b) H') E
theorem op_inOwn {X : Cx} {CX : CXT} {C f : Addr} {fd : FuncData} {ps : List Str} {n : Nat} {sp : Sp} {E : XK} (F : FnOk X.prog X.w X.K X.mg X.base CX n f fd ps sp) (hs : PySem.W.findIn X.K (.ref C) "__contains__" = some (some (.ref f))) (hf : PySem.W.isFn X.K (.ref f) = true) (hb : L2.Binds X.K fd ps []) (hx : Passes CX X E) (hr : Room (n + 1) X.A) :
    OpR X (compareOp .In) (rInOwn C sp E) := by
  intro pins s σ H x y u v Q I rx ry ⟨a, dx, fs, ey, ha, hsp⟩
  subst ey
  cases (show v = Value.ref a from ry)
  obtain ⟨mA, J, _⟩ := ins_get I.hok ha
  obtain ⟨od, J, _⟩ := J.look
  refine wpAny_bind (m := contains (.ref a) u) ?_
  unfold contains
  refine wpAny_holding ?_
  dsimp only [stdlibNamesSay?]
  unfold callSpecialUnlessNone? specialOf
  refine wpAny_bind (wpAny_bind (J.type.here ((PySem.W.looks_findIn I.kIn hs).here ?_)))
  show wpAny _ _ (if (some (Value.ref f) == some Value.none) = true then _ else _) _ _ _
  rw [if_neg (by simp)]
  refine wpAny_bind (wpAny_bind (wpAny_bind (J.type.here ((PySem.W.looks_findIn I.kIn hs).here ?_))))
  refine wpAny_holding (wpAny_bind ((PySem.W.bind_fn I.kIn _ (beq_iff_eq.mp hf)).here ?_))
  show wpAny _ _ (if (Value.ref f == Value.none) = true then _ else _) _ _ _
  rw [if_neg (by simp)]
  refine wpAny_bind (wpAny_mono (own_call (A := X.A) F hb hx (hr.mono (by omega)) rfl I (x := .ref a) rfl rx hsp) (fun w s' h => ?_) fun _ _ h => h)
  obtain ⟨z, H', rz, I', b, ez, q⟩ := h
  subst ez
  cases (show w = Value.bool b from rz)
  exact wpAny_pure (wpAny_truthy_bool (wpAny_pure ⟨.bl b, H', I', rfl, q⟩))
theorem inOwnOf {X : Cx} {CX : CXT} {K : PySem.W.Frag} {C f : Addr} {fd : FuncData} {ps : List Str} {n : Nat} {sp : Sp} {E : XK} (_ : X.K = K) (F : FnOk X.prog X.w X.K X.mg X.base CX n f fd ps sp) (hs : PySem.W.findIn X.K (.ref C) "__contains__" = some (some (.ref f))) (hf : PySem.W.isFn X.K (.ref f) = true) (hb : L2.Binds X.K fd ps []) (hx : Passes CX X E) (hr : Room (n + 1) X.A) :
    OpR X (compareOp .In) (rInOwn C sp E) := op_inOwn F hs hf hb hx hr
end Own
set_option Elab.async false
set_option linter.all false
set_option maxRecDepth 100000
set_option maxHeartbeats 2000000
/-! len(o) with an own __len__; t[::-1] of a tuple -/
namespace Own
open PySem PySem.Spec PyProof.Rows L2 PySem.W
section
variable {X : Cx} {C g : Addr} {gd : FuncData} {qs : List Str} {m : Nat} {sl : Sp} {E : XK}
/-- the number that an own __len__ tells -/
def LenIs (n : Nat) (H : Hp) : VK := fun v H' => v = .int n ∧ H' = H
theorem len_is (F : FnOk X.prog X.w X.K X.mg X.base CX0 m g gd qs sl) (hb : L2.Binds X.K gd qs []) {A : Around} (hr : Room (m + 1) A) (hfr : A.frames = X.A.frames)
    (hs : PySem.W.findIn X.K (.ref C) "__len__" = some (some (.ref g))) (hf : PySem.W.isFn X.K (.ref g) = true) {pins : List (Addr × Obj)} {s : Shared} {σ : L2.St} {H : Hp} {a dx : Addr} {fs : List (Str × V)} {k : Nat} (I : L2.Inv X pins σ H s) (ha : H a = some (.ins C dx fs)) (hk : k ≤ sizeLine) (hsp : sl [.ref a] H (LenIs k H) E) :
    wpAny (model X.prog X.w) A (call (.builtin "len") [.ref a]) (fun r s' => ∃ t : Tok, r = .int k t ∧ L2.Inv X pins σ H s') (fun _ _ => False) s := by
  obtain ⟨mA, J, _⟩ := ins_get I.hok ha
  obtain ⟨od0, J, _⟩ := J.look
  refine Calls.call_function_entry kind_len plain_len entry_len (args_len1 _) ?_
  unfold Builtin.«len»
  refine wpAny_bind (m := oneArg "len" _) (wpAny_pure ?_)
  refine wpAny_bind (m := callSpecial? (.ref a) (PySem.Str.ofString "__len__")) ?_
  unfold callSpecial? specialOf
  refine wpAny_bind (wpAny_bind (J.type.here ((PySem.W.looks_findIn I.kIn hs).here ?_)))
  refine wpAny_holding (wpAny_bind ((PySem.W.bind_fn I.kIn _ (beq_iff_eq.mp hf)).here ?_))
  refine wpAny_bind (wpAny_mono (own_call1 (A := A.in1) F hb (Room.in1 hr) hfr I (x := .ref a) rfl hsp) (fun w s' h => ?_) fun _ _ h => h)
  obtain ⟨z, H', rz, I', ez, eH⟩ := h
  subst ez
  subst eH
  obtain ⟨t, rfl⟩ := (show ∃ t, w = Value.int k t from rz)
  have hz : sizeLine = 16777216 := sizeLine_eq
  refine wpAny_pure (wpAny_bind (wpAny_holding (wpAny_pure ?_)))
  refine wpAny_bind (wpAny_letGo ?_)
  show wpAny _ _ (if ((k : Nat) : Int) < 0 then _ else _) _ _ _
  rw [if_neg (by omega)]
  show wpAny _ _ (if ((k : Nat) : Int) ≥ 2 ^ 63 then _ else _) _ _ _
  rw [if_neg (by omega)]
  exact wpAny_bind (wpAny_mkInt (wpAny_pure ⟨_, rfl, _, rfl, I'.tok _⟩))
def rLenOwn (C : Addr) (sl : Sp) (E : XK) : List V → Hp → VK → Prop := fun xs H Q => ∃ a dx fs n, xs = [.ref a] ∧ H a = some (.ins C dx fs) ∧ n ≤ sizeLine ∧ sl [.ref a] H (LenIs n H) E ∧ Q (.int (n : Nat)) H
theorem call_lenOwn (F : FnOk X.prog X.w X.K X.mg X.base CX0 m g gd qs sl) (hb : L2.Binds X.K gd qs []) (hr : Room (m + 1) X.A)
    (hs : PySem.W.findIn X.K (.ref C) "__len__" = some (some (.ref g))) (hf : PySem.W.isFn X.K (.ref g) = true) : CallR X (.builtin "len") (rLenOwn C sl E) := by
  rintro pins s σ H xs us Q I r ⟨a, dx, fs, n, rfl, ha, hn, hsp, q⟩
  obtain rfl := Vals.ref1 r
  exact wpAny_mono (len_is F hb hr rfl hs hf I ha hn hsp) (fun r s' ⟨t, e, I'⟩ => ⟨.int n, H, I', by rw [e]; exact ⟨t, rfl⟩, q⟩) fun _ _ h => h.elim
end
section
variable {prog : Program} {w : World} {A : Around} {E : Value → Shared → Prop} {s : Shared}
theorem places_rev (n : Nat) : Builtin.Slice.slicePlaces ((n : Int) - 1) (-1) (-1) = n := by
  unfold Builtin.Slice.slicePlaces
  have h1 : ¬ ((-1 : Int) > 0) := by omega
  simp only [h1, if_false]
  rw [show (- -1 : Int) = 1 by decide, Int.ediv_one]
  split <;> omega
theorem applied_rev {sl : Addr} {vl vu vs : Value} {n : Nat} {Q : Int × Int × Nat → Shared → Prop} (hs : s.heap.IsSliceOf sl vl vu vs) (pl : IsPart vl none) (pu : IsPart vu none) (ps : IsPart vs (some (-1)))
    (h : Q (((n : Nat) : Int) - 1, -1, n) s) : wpAny (model prog w) A (Builtin.Slice.sliceApplied (.ref sl) (pure (n : Int))) Q E s := by
  obtain ⟨os, hos, hcs, hds⟩ := id hs
  unfold Builtin.Slice.sliceApplied Builtin.Slice.sliceFields
  refine wpAny_bind (wpAny_bind (wpAny_field hos hds (x := vl) rfl (wpAny_bind (wpAny_field hos hds (x := vu) rfl (wpAny_bind (wpAny_field hos hds (x := vs) rfl (wpAny_pure ?_)))))))
  refine wpAny_bind (HT.slicePart_ ps ?_)
  show wpAny _ _ (if ((-1 : Int) == 0) = true then _ else _) _ _ s
  rw [if_neg (by decide)]
  refine wpAny_bind (HT.slicePart_ pl (wpAny_bind (HT.slicePart_ pu (wpAny_bind (wpAny_pure ?_)))))
  show wpAny _ _ (pure (((n : Int) - 1), (-1 : Int), Builtin.Slice.slicePlaces ((n : Int) - 1) (-1) (-1))) _ _ s
  rw [places_rev]
  exact wpAny_pure h
theorem pick_rev (xs : Array Value) : ((List.range xs.size).filterMap fun (m : Nat) => xs[(((xs.size : Nat) : Int) - 1 + (m : Int) * -1).toNat]?).toArray = xs.toList.reverse.toArray := by
  have e : ((List.range xs.size).filterMap fun (m : Nat) => xs[(((xs.size : Nat) : Int) - 1 + (m : Int) * -1).toNat]?) = ((List.range xs.size).map fun k => xs.size - 1 - k).filterMap (xs[·]?) := by
    rw [List.filterMap_map]
    refine congrArg (fun f => List.filterMap f _) (funext fun m => ?_)
    show xs[(((xs.size : Nat) : Int) - 1 + (m : Int) * -1).toNat]? = xs[xs.size - 1 - m]?
    by_cases h : m < xs.size
    · rw [show (((xs.size : Nat) : Int) - 1 + (m : Int) * -1).toNat = xs.size - 1 - m by omega]
    · rw [show (((xs.size : Nat) : Int) - 1 + (m : Int) * -1).toNat = xs.size - 1 - m by omega]
  rw [e, krv_range, List.filterMap_reverse, krv_all]
theorem getItem_tuple_rev {t sl : Addr} {items : Array Value} {vl vu vs : Value} {Q : Value → Shared → Prop} (ht : IsTup s.heap t items) (hs : s.heap.IsSliceOf sl vl vu vs) (pl : IsPart vl none) (pu : IsPart vu none) (ps : IsPart vs (some (-1)))
    (h : Q (.ref s.heap.objs.size) { s with heap := s.heap.push { cls := .type "tuple", data := .seq items.toList.reverse.toArray } })
    (hsz : items.size ≤ sizeLine) : wpAny (model prog w) A (getItem (.ref t) (.ref sl)) Q E s := by
  have htake : sizeOk (.seq items.toList.reverse.toArray) := by
    show items.toList.reverse.toArray.size ≤ sizeLine
    rw [List.size_toArray, List.length_reverse, Array.length_toList]
    exact hsz
  obtain ⟨os, hos, hcs, hds⟩ := id hs
  have hTs : s.TypeIs (.ref sl) "slice" := ⟨os, hos, hcs⟩
  unfold getItem
  try with_reducible refine wpAny_holding ?_
  first | refine wpAny_bind (wpAny_pure ?_) | skip
  refine wpAny_bind (wpAny_sequenceKey ht.typeIs (by decide) ?_)
  refine wpAny_bind (wpAny_callSpecial?_slot (name := Str.ofString "__getitem__") ht.typeIs PyProof.Rows.slot_tuple_getitem
    (wpAny_call_entry PyProof.Rows.slot_tuple_getitem ht.typeIs PyProof.Rows.entry_tuple_getitem ?_ (PyProof.Rows.args_tuple_getitem _ _)))
  show wpAny _ _ (Builtin.Tuple.tupleItemsOf (.ref t) >>= _) _ _ s
  refine wpAny_bind (tupleItemsOf_ ht ?_)
  refine wpAny_bind (wpAny_typeOf hTs ?_)
  rw [if_pos (by decide)]
  refine wpAny_bind (applied_rev hs pl pu ps ?_)
  have hno : ¬ ((((items.size : Int) - 1) == 0 && (-1 : Int) == 1 && items.size == items.size) = true) := by
    intro q
    rw [Bool.and_eq_true, Bool.and_eq_true] at q
    exact absurd (eq_of_beq q.1.2) (by decide)
  show wpAny _ _ (if (((items.size : Int) - 1) == 0 && (-1 : Int) == 1 && items.size == items.size) = true then _ else _) _ _ s
  rw [if_neg hno, pick_rev]
  first
    | exact wpAny_bind (m := Builtin.Tuple.tupleExact _) (wpAny_newObj_type (wpAny_pure ⟨_, rfl, wpAny_pure h⟩) htake)
    | exact wpAny_bind (m := Builtin.Tuple.tupleExact _) (wpAny_newObj_type (wpAny_bind (wpAny_pure (wpAny_pure ⟨_, rfl, wpAny_pure h⟩))) htake)
    | exact wpAny_bind (wpAny_bind (m := Builtin.Tuple.tupleExact _) (wpAny_newObj_type (wpAny_pure (wpAny_pure ⟨_, rfl, wpAny_pure h⟩)) htake))
    | exact wpAny_bind (wpAny_bind (m := Builtin.Tuple.tupleExact _) (wpAny_newObj_type (wpAny_pure ⟨_, rfl, wpAny_pure h⟩) htake))
end
def tRevT (K : PySem.W.Frag) (te : TE) : TE := fun σ H Q => te σ H fun x H1 => ∃ a xs, x = .ref a ∧ SqT K H1 a xs ∧ ∀ p, H1 p = none → Q (.ref p) (upd H1 p (.tup xs.reverse))
theorem pe_revT {X : Cx} {e : Expr} {te : TE} {k : Nat} {p1 p2 p3 pos : Pos} (he : PE X e te) : PE X (.Subscript e (.Slice none none (some (.UnaryOp .USub (.Constant (.int 1) k p1) p2)) p3) pos) (tRevT X.K te) := by
  refine ⟨fun pins s σ H Q I h => ?_⟩
  refine Subscript_ (thn (he.run pins s σ H _ I h) fun v s1 ⟨x, H1, I1, r1, q1⟩ => ?_)
  obtain ⟨a, xs, ex, hx, q⟩ := q1
  subst ex
  cases r1
  have hst : PO X (some (.UnaryOp .USub (.Constant (.int 1) k p1) p2)) (tPart (tUn (rU fun i => .int (-i)) (tC (.int 1)))) := po_some (pe_un un_neg pe_int)
  refine wpAny_Slice (thn (po_none.run pins s1 σ H1 (fun o H2 => o = none ∧ H2 = H1) I1 ⟨rfl, rfl⟩) fun vl s2 ⟨l, H2, I2, pl, el, e2⟩ => ?_)
  subst el e2
  refine thn (po_none.run pins s2 σ H2 (fun o H3 => o = none ∧ H3 = H2) I2 ⟨rfl, rfl⟩) fun vu s3 ⟨u, H3, I3, pu, eu, e3⟩ => ?_
  subst eu e3
  refine thn (hst.run pins s3 σ H3 (fun o H4 => o = some (-1) ∧ H4 = H3) I3 ⟨1, rfl, -1, rfl, rfl, rfl⟩) fun vs s4 ⟨o, H4, I4, ps, eo, e4⟩ => ?_
  subst eo e4
  have I5 : L2.Inv X pins σ H4 { s4 with heap := s4.heap.push { cls := .type "slice", data := .fields #[vl, vu, vs] } } := I4.kept (t' := s4.toks) fun b ob q => Heap.get?_push_of_some _ q
  obtain ⟨its, r, ht, hz⟩ := I5.tuple hx
  have hlen : its.toArray.size = xs.length := by rw [List.size_toArray]; exact r.length.symm
  show wpAny (model X.prog X.w) X.A (subscriptTail e (.Slice none none (some (.UnaryOp .USub (.Constant (.int 1) k p1) p2)) p3) (.ref a) (.ref s4.heap.objs.size)) (EP X pins σ Q) X.xe { s4 with heap := s4.heap.push { cls := .type "slice", data := .fields #[vl, vu, vs] } }
  refine tail_any (ops := [.ref a, .ref s4.heap.objs.size]) ht.typeIs (PyProof.Rows.slot_tuple_getitem.lookup) ?_ (by with_unfolding_all rfl)
  refine getItem_tuple_rev ht (Heap.IsSliceOf.new _ vl vu vs) pl pu ps ?_ (by rw [hlen]; exact hz)
  refine ⟨.ref _, _, I5.laid (t' := s4.toks) (o := .tup xs.reverse) (fun b ob q => Heap.get?_push_of_some _ q) (Nat.le_refl _) ?_, rfl, q _ (I5.hok.fresh (Nat.le_refl _))⟩
  exact ⟨by rw [List.length_reverse]; exact hz, _, r.reverse, IsTup.new _ _⟩
/-! ### an int on the left -/
theorem int_declines {prog : Program} {w : World} {A : Around} {E : Value → Shared → Prop} {s : Shared} {i : Int} {t : Tok} {x C dx : Addr} (hx : s.heap.get? x = some (PySem.W.instObj C dx)) :
    wpAny (model prog w) A (tryCompare (.int i t) "__eq__" (.ref x)) (fun r s' => r = none ∧ s' = s) E s := by
  have hT : s.TypeIs (.int i t) "int" := rfl
  refine wpAny_tryCompare_declines hT PySem.F.slot_int_eq_refl (wpAny_call (codeAny_call_builtin PySem.F.slot_int_eq_refl.plain PySem.F.entry_int_eq (PySem.F.slot_int_eq_refl.check _ _ _ _ _ _ _ _ hT (PySem.F.args_int_eq_2 _ _) ?_)))
  show wpAny _ _ (Builtin.Int.intBinary "__eq__" (fun x y => ret (.bool (x == y))) false ⟨[.int i t, .ref x], []⟩) _ _ _
  unfold Builtin.Int.intBinary
  refine wpAny_bind (m := slotArgs "__eq__" 1 _) (wpAny_pure ?_)
  refine wpAny_bind (m := Builtin.Int.intOfSelf (.int i t)) ?_
  unfold Builtin.Int.intOfSelf
  refine wpAny_bind (m := asInt? (.int i t)) (wpAny_pure (wpAny_pure ?_))
  refine wpAny_bind (m := asInt? (.ref x)) ?_
  unfold asInt?
  refine wpAny_bind (m := load x) (wpAny_load hx (wpAny_pure ?_))
  refine wpAny_bind (wpAny_rule (wpAny_pure ?_))
  first
    | exact ⟨trivial, rfl, rfl⟩
    | exact ⟨trivial, trivial, rfl⟩
    | exact ⟨trivial, rfl⟩
    | simp
section
variable {X : Cx} {CX : CXT} {C f : Addr} {fd : FuncData} {ps : List Str} {n : Nat} {sp : Sp} {E : XK}
def rIntL (C : Addr) (sp : Sp) (E : XK) : R2 := fun x y H Q => ∃ i a dx fs, x = .int i ∧ y = .ref a ∧ H a = some (.ins C dx fs) ∧ sp [y, x] H (fun v H' => ∃ b : Bool, v = .bl b ∧ Q (.bl b) H') E
theorem op_eqIntL (F : FnOk X.prog X.w X.K X.mg X.base CX n f fd ps sp) (hsub : PySem.W.subIn X.K (.ref C) (.type "int") = some false)
    (hs : PySem.W.findIn X.K (.ref C) "__eq__" = some (some (.ref f))) (hf : PySem.W.isFn X.K (.ref f) = true) (hb : L2.Binds X.K fd ps []) (hx : Passes CX X E) (hr : Room n X.A) :
    OpR X (compareOp .Eq) (rIntL C sp E) := by
  intro pins s σ H x y u v Q I rx ry ⟨i, a, dx, fs, ex, ey, ha, hsp⟩
  subst ex
  subst ey
  obtain ⟨t, rfl⟩ := (show ∃ t, u = Value.int i t from rx)
  cases (show v = Value.ref a from ry)
  obtain ⟨mA, J0, _⟩ := ins_get I.hok ha
  obtain ⟨od, J, _⟩ := J0.look
  show wpAny (model X.prog X.w) X.A (richCompare .Eq (.int i t) (.ref a)) (EP X pins σ Q) X.xe s
  refine rc_left hr.units0 I.kIn J (show s.TypeIs (.int i t) "int" from rfl) hsub rfl (int_declines J0.obj) hs hf ?_
  refine wpAny_mono (own_call F hb hx hr rfl I (x := .ref a) (y := .int i) rfl ⟨t, rfl⟩ hsp) (fun w s' h => ?_) fun _ _ h => h
  obtain ⟨z, H', rz, I', b, ez, q⟩ := h
  subst ez
  cases (show w = Value.bool b from rz)
  exact ⟨b, rfl, .bl b, H', I', rfl, q⟩
end
end Own
set_option Elab.async false
set_option linter.all false
set_option maxRecDepth 100000
set_option maxHeartbeats 2000000
/-! a dict written with other dicts in it -/
namespace Own
open PySem PySem.Spec PyProof.Rows L2
section
variable {prog : Program} {w : World} {K : Type} [DecidableEq K] {knd : KeyKind prog w K} {A : Around} {E : Value → Shared → Prop} {s : Shared}
theorem put_pairs {d : Addr} {kvs : List (K × Value)} {k : K} {key v : Value} {Q : Unit → Shared → Prop} (hkey : knd.is k key = true) (hm : s.heap.DictOf knd d kvs)
    (hQ : ∀ h', h'.DictOf knd d (stored kvs k v) → Heap.SameBut d s.heap h' → Q () { s with heap := h' }) (hsz : kvs.length ≤ sizeLine) :
    wpAny (model prog w) A (dictPut d (knd.hash k) key v) Q E s := by
  obtain ⟨o, es, ep, ho, hc, hd, hk, hp, hn⟩ := hm
  have hes : es.size ≤ sizeLine := by
    have e1 := hp.length
    rw [Array.length_toList] at e1
    omega
  unfold dictPut
  refine wpAny_bind (wpAny_dictFind_of hkey ho hd hk ?_)
  have hidx : (es.findIdx? fun e => knd.is k e.key) = kvs.findIdx? fun kv => decide (kv.1 = k) := by
    rw [← hp.findIdx k]; obtain ⟨l⟩ := es; simp
  cases hi : es.findIdx? fun e => knd.is k e.key with
  | some i =>
    refine wpAny_updateDict ho hd (hQ _ ⟨_, _, ep, Heap.get?_update_self _ ho (Obj.isFreed_of_dict (Obj.data_mapDict hd _)), hc.mapDict _, Obj.data_mapDict hd _, hk.modify _ _, ?_, ?_⟩ (Heap.SameBut.update ..))
    · rw [stored, if_pos (any_of_findIdx_some (hidx ▸ hi))]
      have hl : (es.toList.findIdx? fun e => knd.is k e.key) = some i := by rw [← hi]; obtain ⟨l⟩ := es; simp
      have := hp.modify hn hl v
      obtain ⟨l⟩ := es
      simpa using this
    · rw [stored, if_pos (any_of_findIdx_some (hidx ▸ hi)), keys_map_store]; exact hn
  | none =>
    have hnot : k ∉ kvs.map (·.1) := not_mem_of_findIdx_none (hidx ▸ hi)
    have hany : ¬ (kvs.any fun kv => decide (kv.1 = k)) = true := by
      rw [List.any_eq_true]; rintro ⟨kv, hkv, he⟩
      exact hnot (List.mem_map.mpr ⟨kv, hkv, of_decide_eq_true he⟩)
    refine wpAny_updateDictKeys (hz := hes) ho hd (hQ _ ⟨_, _, ep + 1, Heap.get?_update_self _ ho (Obj.isFreed_of_dict (Obj.data_mapDictKeys hd _)), hc.mapDictKeys _, Obj.data_mapDictKeys hd _, hk.push hkey _, ?_, ?_⟩ (Heap.SameBut.update ..))
    · rw [stored, if_neg hany]
      have := hp.append hkey (knd.hash k) v
      obtain ⟨l⟩ := es
      simpa using this
    · rw [stored, if_neg hany, List.map_append, List.nodup_append]
      refine ⟨hn, by simp, ?_⟩
      intro a ha b hb
      simp only [List.map_cons, List.map_nil, List.mem_singleton] at hb
      subst hb
      exact fun e => hnot (e ▸ ha)
theorem merge_pairs {d o : Addr} {kvs more : List (K × Value)} {Q : Unit → Shared → Prop} (nr : ∀ k v, knd.is k v = true → ∀ a, v ≠ .ref a) (hdo : d ≠ o) (hoS : (o == sysModules) = false) (hd : s.heap.DictOf knd d kvs) (ho : s.heap.DictOf knd o more)
    (hQ : ∀ h', h'.DictOf knd d (merged kvs more) → h'.DictOf knd o more → Heap.SameBut d s.heap h' → Q () { s with heap := h' }) (hsz : kvs.length + more.length ≤ sizeLine) :
    wpAny (model prog w) A (mergeMapping d (.ref o) false) Q E s := by
  obtain ⟨od, esd, epd, hod, hcd, hdd, hkd, hpd, hnd⟩ := id hd
  obtain ⟨oo, eso, epo, hoo, hco, hdo', hko, hpo, hno⟩ := id ho
  have hlen : more.length = eso.size := by rw [← hpo.length]; simp
  have loop : wpAny (model prog w) A (do
      let l ← dictEntries o
      have size : Nat := l.size
      let epoch ← dictEpoch o
      forIn (List.range size) PUnit.unit fun i (_ : PUnit) => (do
        let l' ← dictEntries o
        match l'[i]? with
          | some e => do
            holding [e.key, e.val] (dictPut d e.hash e.key e.val)
            let ep' ← dictEpoch o
            if (ep' != epoch) = true then do
                (unsupported "dict.changed-during-merge" : Sem PUnit)
                pure (ForInStep.yield PUnit.unit)
              else pure (ForInStep.yield PUnit.unit)
          | _ => do
            (unsupported "dict.changed-during-merge" : Sem PUnit)
            pure (ForInStep.yield PUnit.unit) : Sem (ForInStep PUnit))
      pure ()) Q E s := by
    refine wpAny_bind (wpAny_dictEntries hoo hdo' ?_)
    refine wpAny_bind (wpAny_dictEpoch hoo hdo' ?_)
    refine wpAny_bind ?_
    rw [show List.range eso.size = List.range' 0 eso.size from List.range_eq_range']
    refine wpAny_forIn_list _
      (fun rest _ s' => ∃ h' i, s' = { s with heap := h' } ∧ rest = List.range' i (eso.size - i) ∧ i ≤ eso.size ∧ h'.DictOf knd d (merged kvs (more.take i)) ∧ h'.get? o = some oo ∧ Heap.SameBut d s.heap h')
      _ ?_ ?_ _ _ ⟨s.heap, 0, rfl, by simp, Nat.zero_le _, by simpa [merged] using hd, hoo, Heap.SameBut.refl _ _⟩
    · rintro x rest b s' ⟨h', i, rfl, hr, hi, hd', hoo', hs'⟩
      have hlt : i < eso.size := by
        rcases Nat.lt_or_ge i eso.size with h | h
        · exact h
        · rw [Nat.sub_eq_zero_of_le h] at hr; simp at hr
      obtain ⟨rfl, hrest⟩ : x = i ∧ rest = List.range' (i + 1) (eso.size - (i + 1)) := by
        have e : eso.size - i = (eso.size - (i + 1)) + 1 := by omega
        rw [e, List.range'_succ] at hr
        injection hr with h1 h2
        exact ⟨h1, h2⟩
      refine wpAny_bind (wpAny_dictEntries hoo' hdo' ?_)
      rw [Array.getElem?_eq_getElem hlt]
      obtain ⟨kv, hkv⟩ : ∃ kv, more[x]? = some kv := ⟨more[x]'(by rw [hlen]; exact hlt), List.getElem?_eq_getElem _⟩
      obtain ⟨k, v⟩ := kv
      obtain ⟨hkey, hval⟩ := hpo.get? (e := eso[x]) (by simp [hlt]) hkv
      obtain ⟨k', hkey', hhash⟩ := hko eso[x] (Array.getElem_mem hlt)
      obtain rfl : k' = k := knd.inj _ _ _ hkey' hkey
      show wpAny _ _ (holding [eso[x].key, eso[x].val] (dictPut d eso[x].hash eso[x].key eso[x].val) >>= _) _ _ _
      rw [hhash, hval]
      have hmx : (merged kvs (more.take x)).length ≤ sizeLine := by
        have e1 := merged_length_le kvs (more.take x)
        have e2 : (more.take x).length ≤ more.length := by rw [List.length_take]; omega
        omega
      refine wpAny_bind (wpAny_holding (put_pairs hkey hd' (fun h'' hd'' hs'' => ?_) hmx))
      have hoo'' : h''.get? o = some oo := (hs''.2 o (Ne.symm hdo)).trans hoo'
      refine wpAny_bind (wpAny_dictEpoch hoo'' hdo' ?_)
      rw [if_neg (by simp)]
      exact wpAny_pure ⟨h'', x + 1, rfl, hrest, hlt, by rw [merged_take_succ kvs more x (k', v) hkv]; exact hd'', hoo'', hs'.trans hs''⟩
    · rintro b s' ⟨h', i, rfl, hr, hi, hd', hoo', hs'⟩
      have hin : i = eso.size := by
        rcases Nat.lt_or_ge i eso.size with h | h
        · have e : eso.size - i = (eso.size - (i + 1)) + 1 := by omega
          rw [e, List.range'_succ] at hr; exact nomatch hr
        · exact Nat.le_antisymm hi h
      refine wpAny_pure (hQ h' ?_ ⟨oo, eso, epo, hoo', hco, hdo', hko, hpo, hno⟩ hs')
      rw [hin, ← hlen, List.take_length] at hd'; exact hd'
  unfold mergeMapping
  refine wpAny_bind (m := isInstance (.ref o) (.type "dict")) (wpAny_isInstance ho.typeIs isSubtype_dict_dict ?_)
  simp only [if_true]
  refine wpAny_bind (wpAny_specialOf ho.typeIs F.slot_dict_iter.lookup ?_)
  simp only [beq_self_eq_true]
  show wpAny _ _ (if (o == sysModules) = true then _ else _) _ _ _
  rw [if_neg (by rw [hoS]; exact Bool.false_ne_true)]
  refine wpAny_bind (wpAny_dictEntries hod hdd ?_)
  split
  · refine wpAny_bind (wpAny_dictEntries hoo hdo' ?_)
    refine wpAny_bind (m := forIn eso PUnit.unit _) (wpAny_of_eq (a := PUnit.unit) ?_ loop)
    rw [← Array.forIn_toList]
    refine forIn_yield_id _ fun e he c => ?_
    obtain ⟨k, hkey, _⟩ := hko e (Array.mem_toList_iff.mp he)
    cases hv : e.key with
    | ref a => exact absurd hv (nr k _ hkey a)
    | _ => rfl
  · exact loop
end
theorem key_nref {P : Program} {w : World} (k : Key) (v : Value) (h : (mixKind P w).is k v = true) (a : Addr) : v ≠ .ref a := fun e => by
  rcases keyIs_shape h with ⟨i, t, _, q⟩ | ⟨x, t, _, q⟩ <;> (rw [q] at e; cases e)
section
variable {X : Cx} {pins : List (Addr × Obj)} {σ : L2.St} {H : Hp} {s : Shared} {A : Around} {E : Value → Shared → Prop}
theorem d_merge {p a : Addr} {kp ka : List (Key × V)} {Q : Unit → Shared → Prop} (I : L2.Inv X pins σ H s) (hp : H p = some (.dK kp)) (ha : Rd H a (.dK ka)) (ne : p ≠ a) (hsz : kp.length + ka.length ≤ sizeLine)
    (q : ∀ s', L2.Inv X pins σ (upd H p (.dK (mergeK kp ka))) s' → Q () s') : wpAny (model X.prog X.w) A (mergeMapping p (.ref a) false) Q E s := by
  obtain ⟨z, hd, vs0, r0, dp⟩ := dk_of I.hok hp
  obtain ⟨_, lo, vs, rel, da⟩ := dk_rd I.hok ha
  refine merge_pairs (knd := mixKind X.prog X.w) key_nref ne lo dp da (fun h' d1 _ hs => ?_) (by rw [← r0.length, ← rel.length]; exact hsz)
  have he : ∃ q, h'.get? p = some q := let ⟨q, _, _, hq, _⟩ := d1; ⟨q, hq⟩
  exact q _ (d_write (t' := s.toks) I (by rw [hp]; exact True.intro) hs he (dk_new (Nat.le_trans (length_mergeK ka kp) hsz) hd (rel.merge r0) d1))
end
/-- {**a, **b} -/
def tMerge2 (ta tb : TE) : TE := fun σ H Q => ∀ p, H p = none → ta σ (upd H p (.dK [])) fun x H1 => ∃ a ka, x = .ref a ∧ H1 p = some (.dK []) ∧ Rd H1 a (.dK ka) ∧ p ≠ a ∧ ka.length ≤ 1000 ∧
  tb σ (upd H1 p (.dK (mergeK [] ka))) fun y H2 => ∃ b kb, y = .ref b ∧ H2 p = some (.dK (mergeK [] ka)) ∧ Rd H2 b (.dK kb) ∧ p ≠ b ∧ kb.length ≤ 1000 ∧ Q (.ref p) (upd H2 p (.dK (mergeK (mergeK [] ka) kb)))
theorem pe_merge2 {X : Cx} {ea eb : Expr} {ta tb : TE} {pos : Pos} (ha : PE X ea ta) (hb : PE X eb tb) : PE X (.Dict [none, none] [ea, eb] pos) (tMerge2 ta tb) := by
  refine ⟨fun pins s σ H Q I q => ?_⟩
  have hn := I.hok.fresh (Nat.le_refl s.heap.objs.size)
  have I1 := I.laid (a := s.heap.objs.size) (o := .dK []) (h' := s.heap.push { cls := .type "dict", data := .dict #[] }) (t' := s.toks) (fun _ _ q => Heap.get?_push_of_some _ q) (Nat.le_refl _) (dk_empty s.heap I.big)
  rw [arm_eval_Dict]
  refine wpAny_bind (wpAny_standAt ?_)
  show wpAny (model X.prog X.w) X.A (dictDisplay [(none, do let x ← eval ea X.env; standAt pos; pure x), (none, do let x ← eval eb X.env; standAt pos; pure x)]) _ _ _
  unfold dictDisplay
  simp only [List.forIn_cons, List.forIn_nil, List.isEmpty_nil, if_true, pure_bind, bind_assoc, List.isEmpty]
  refine wpAny_bind (wpAny_alloc ?_)
  refine wpAny_bind (wpAny_holding (wpAny_bind (thn (ha.run pins _ σ _ _ I1 (q _ hn)) fun u s1 ⟨x, H1, I2, r1, a, ka, ex, h1, h2, h3, h4, q1⟩ => wpAny_bind (wpAny_standAt (wpAny_pure ?_)))))
  subst ex
  cases (show u = Value.ref a from r1)
  have z1 : (1000 : Nat) ≤ sizeLine := by rw [sizeLine_eq]; decide
  refine wpAny_bind (wpAny_onRaise (wpAny_tryCatch (wpAny_onRaise (wpAny_holding (d_merge I2 h1 h2 h3 (by rw [List.length_nil, Nat.zero_add]; exact Nat.le_trans h4 z1) fun s2 I3 => ?_)))))
  refine wpAny_bind (wpAny_holding (wpAny_bind (thn (hb.run pins _ σ _ _ I3 q1) fun u s3 ⟨y, H2, I4, r2, b, kb, ey, g1, g2, g3, g4, q2⟩ => wpAny_bind (wpAny_standAt (wpAny_pure ?_)))))
  subst ey
  cases (show u = Value.ref b from r2)
  have l1 := length_mergeK ka []
  rw [List.length_nil] at l1
  refine wpAny_bind (wpAny_onRaise (wpAny_tryCatch (wpAny_onRaise (wpAny_holding (d_merge I4 g1 g2 g3 (by rw [sizeLine_eq]; omega) fun s4 I5 => ?_)))))
  exact wpAny_pure ⟨.ref _, _, I5, rfl, q2⟩
/-- {**a, k: v} -/
def tMerge1 (ta tk tv : TE) : TE := fun σ H Q => ∀ p, H p = none → ta σ (upd H p (.dK [])) fun x H1 => ∃ a ka, x = .ref a ∧ H1 p = some (.dK []) ∧ Rd H1 a (.dK ka) ∧ p ≠ a ∧ ka.length ≤ 1000 ∧
  ∀ q, upd H1 p (.dK (mergeK [] ka)) q = none → tk σ (upd (upd H1 p (.dK (mergeK [] ka))) q (.dK [])) fun k H3 => tv σ H3 fun v H4 => H4 q = some (.dK []) ∧ H4 p = some (.dK (mergeK [] ka)) ∧ p ≠ q ∧ ∃ key, k = kV key ∧ Q (.ref p) (upd (upd H4 q (.dK [(key, v)])) p (.dK (putK (mergeK [] ka) key v)))
theorem pe_merge1 {X : Cx} {ea ek ev : Expr} {ta tk tv : TE} {pos : Pos} (ha : PE X ea ta) (hk : PE X ek tk) (hv : PE X ev tv) : PE X (.Dict [none, some ek] [ea, ev] pos) (tMerge1 ta tk tv) := by
  refine ⟨fun pins s σ H Q I q => ?_⟩
  have hn := I.hok.fresh (Nat.le_refl s.heap.objs.size)
  have I1 := I.laid (a := s.heap.objs.size) (o := .dK []) (h' := s.heap.push { cls := .type "dict", data := .dict #[] }) (t' := s.toks) (fun _ _ q => Heap.get?_push_of_some _ q) (Nat.le_refl _) (dk_empty s.heap I.big)
  rw [arm_eval_Dict]
  refine wpAny_bind (wpAny_standAt ?_)
  show wpAny (model X.prog X.w) X.A (dictDisplay [(none, do let x ← eval ea X.env; standAt pos; pure x), (some (eval ek X.env), do let x ← eval ev X.env; standAt pos; pure x)]) _ _ _
  unfold dictDisplay
  simp only [List.forIn_cons, List.forIn_nil, List.isEmpty_nil, if_true, pure_bind, bind_assoc, List.isEmpty, List.nil_append, List.length_cons, List.length_nil]
  refine wpAny_bind (wpAny_alloc ?_)
  refine wpAny_bind (wpAny_holding (wpAny_bind (thn (ha.run pins _ σ _ _ I1 (q _ hn)) fun u s1 ⟨x, H1, I2, r1, a, ka, ex, h1, h2, h3, h4, q1⟩ => wpAny_bind (wpAny_standAt (wpAny_pure ?_)))))
  subst ex
  cases (show u = Value.ref a from r1)
  have z1 : (1000 : Nat) ≤ sizeLine := by rw [sizeLine_eq]; decide
  refine wpAny_bind (wpAny_onRaise (wpAny_tryCatch (wpAny_onRaise (wpAny_holding (d_merge I2 h1 h2 h3 (by rw [List.length_nil, Nat.zero_add]; exact Nat.le_trans h4 z1) fun s2 I3 => ?_)))))
  rw [if_neg (show ¬ ((0 + 1 == 17) = true) by decide)]
  simp only [pure_bind, bind_assoc, Bool.false_eq_true, if_false]
  show wpAny _ _ (holding [Value.ref s.heap.objs.size] (subDict [(eval ek X.env, do let x ← eval ev X.env; standAt pos; pure x)]) >>= _) _ _ _
  have hn2 := I3.hok.fresh (Nat.le_refl s2.heap.objs.size)
  have I3' := I3.laid (a := s2.heap.objs.size) (o := .dK []) (h' := s2.heap.push { cls := .type "dict", data := .dict #[] }) (t' := s2.toks) (fun _ _ q => Heap.get?_push_of_some _ q) (Nat.le_refl _) (dk_empty s2.heap I3.big)
  refine wpAny_bind (wpAny_holding (wpAny_subDict (knd := mixKind X.prog X.w) (by show 1 ≤ 15; decide) ?_))
  refine evalPairs_cons (thn (hk.run pins _ σ _ _ I3' (q1 _ hn2)) fun uk s4 ⟨yk, H3, I4, rk, q2⟩ => ?_)
  refine wpAny_bind (thn (hv.run pins _ σ _ _ I4 q2) fun uv s5 ⟨yv, H4, I5, rv, g1, g2, g3, key, ey, q3⟩ => wpAny_bind (wpAny_standAt (wpAny_pure ?_)))
  refine evalPairs_nil ?_
  subst ey
  obtain ⟨z, hd, vs0, r0, dd⟩ := dk_of I5.hok g1
  cases r0
  refine ⟨[(key, uv)], ⟨kV_is rk, rfl, trivial⟩, dd, fun h' d1 hs => ?_⟩
  have he : ∃ q, h'.get? s2.heap.objs.size = some q := let ⟨q, _, _, hq, _⟩ := d1; ⟨q, hq⟩
  have I6 : L2.Inv X pins σ (upd H4 s2.heap.objs.size (.dK [(key, yv)])) { s5 with heap := h', toks := s5.toks + 1 } := d_write I5 (by rw [g1]; exact True.intro) hs he (dk_new (by show 1 ≤ sizeLine; rw [sizeLine_eq]; decide) hd (.cons ⟨rfl, rv⟩ .nil) d1)
  have l1 := length_mergeK ka []
  rw [List.length_nil] at l1
  have m1 : upd H4 s2.heap.objs.size (.dK [(key, yv)]) s.heap.objs.size = some (.dK (mergeK [] ka)) := by rw [upd_ne g3]; exact g2
  refine wpAny_bind (wpAny_onRaise (wpAny_holding (d_merge I6 m1 (.inl upd_same) g3 (by rw [sizeLine_eq]; show _ + 1 ≤ _; omega) fun s7 I7 => ?_)))
  exact wpAny_pure ⟨.ref _, _, I7, rfl, q3⟩
end Own
set_option Elab.async false
set_option linter.all false
set_option maxRecDepth 100000
set_option maxHeartbeats 2000000
/-! an exception out of a loop over a locked dict -/
namespace Own
open PySem PySem.Spec PyProof.Rows L2
theorem takes_unlock {X : Cx} {W : WX} (tk : Takes X W) : Takes X (fun c d σ H => ∃ p od u, H p = some (.frz od u) ∧ (∀ o' u', X.H_0 p ≠ some (.frz o' u')) ∧ W c d σ (upd H p u)) := fun u s' ⟨a, B, sI, pins, σ, H, cls, d, e, I, nb, up, sky, na, os, ag, p, od, u0, h1, h2, w⟩ =>
  tk u s' ⟨a, B, sI, pins, σ, upd H p u0, cls, d, e, I.unlock h1 h2, nb, up, sky, by rw [upd_ne (fun z => by rw [z, h1] at na; cases na)]; exact na, os, ag, w⟩
end Own
set_option Elab.async false
set_option linter.all false
set_option maxRecDepth 100000
set_option maxHeartbeats 2000000
/-! a dict not in a list of dicts -/
namespace Own
open PySem PySem.Spec PyProof.Rows L2
section
open PySem.AutoSeq1 PySem.MeetsSeq PySem.SeqAt PySem.W
variable {prog : Program} {w : World}
/-- what `in` of a list asks at each step, in one program -/
def stepD (prog : Program) (w : World) (l : Addr) (zs : Array Value) (n : Nat) (dd : Option Addr) (sl : Array (Option Value)) (x : Value) (e : Value → Bool) (b : Bool) : PySem.Spec := fun A R s =>
  s.heap.get? l = some ⟨.type "list", dd, .seq zs n, sl⟩ ∧ (∀ y ∈ zs, EqIn prog w A.in1 s y x (e y)) ∧ R (.ok (.ret (.bool b))) s
theorem loopD {l : Addr} {zs : Array Value} {n : Nat} {dd : Option Addr} {sl : Array (Option Value)} {x : Value} {e : Value → Bool} : ∀ (m i : Nat), zs.size - i = m →
    MeetsIn prog w (Builtin.«list.__contains__.loop» ⟨[.ref l, x, rawInt i], []⟩) (stepD prog w l zs n dd sl x e ((zs.toList.drop i).any e))
  | 0, i, hm => by
    rintro A R ⟨hp, g, d, tk, os⟩ ⟨q1, q2, q3⟩
    wp_walk using wpAny_loadPart' q1
    have z1 : zs[(i : Int).toNat]? = none := by simp; omega
    rw [show zs.toList.drop i = [] by simp; omega] at q3
    rw [z1]
    wp_walk
    exact q3
  | m + 1, i, hm => by
    rintro A R ⟨hp, g, d, tk, os⟩ ⟨q1, q2, q3⟩
    have lt : i < zs.size := by omega
    wp_walk using wpAny_loadPart' q1
    have z1 : zs[(i : Int).toNat]? = some zs[i] := by simp [lt]
    rw [show zs.toList.drop i = zs[i] :: zs.toList.drop (i + 1) by simp [List.drop_eq_getElem_cons, lt], List.any_cons] at q3
    rw [z1]
    refine wpAny_bind (q2 _ (Array.getElem_mem lt) _ _ ?_)
    by_cases c : e zs[i] = true
    · rw [c] at q3 ⊢
      wp_walk
      exact q3
    · have c : e zs[i] = false := by simpa using c
      rw [c] at q3 ⊢
      wp_walk
      rw [show ((i : Int) + 1) = ((i + 1 : Nat) : Int) by push_cast; rfl]
      refine ⟨plainId_quiet plain_contains_loop _, codeAny_builtin entry_contains_loop ?_⟩
      rw [Around.under_plainId plain_contains_loop _]
      exact loopD m (i + 1) (by omega) A R _ ⟨q1, q2, by simpa using q3⟩
theorem listD {l : Addr} {zs : Array Value} {n : Nat} {dd : Option Addr} {sl : Array (Option Value)} {x : Value} {e : Value → Bool} :
    MeetsIn prog w (Builtin.«list.__contains__» ⟨[.ref l, x], []⟩) (stepD prog w l zs n dd sl x e (zs.any e)) := by
  rintro A R ⟨hp, g, d, tk, os⟩ ⟨q1, q2, q3⟩
  wp_walk using wpAny_loadPart' q1
  refine ⟨plainId_quiet plain_contains_loop _, codeAny_builtin entry_contains_loop ?_⟩
  rw [Around.under_plainId plain_contains_loop _]
  exact loopD _ 0 rfl A R _ ⟨q1, q2, by simpa using q3⟩
theorem notInD {A : Around} {E : Value → Shared → Prop} {s : Shared} {l : Addr} {zs : Array Value} {x : Value} {Q : Value → Shared → Prop} (e : Value → Bool) (hl : s.heap.IsList l zs) (he : ∀ y ∈ zs, EqIn prog w A.in1 s y x (e y)) (h : Q (.bool (!zs.any e)) s) :
    wpAny (model prog w) A (compareOp .NotIn x (.ref l)) Q E s := by
  obtain ⟨⟨cls, dd, data, sl⟩, ho, hc, n, hd⟩ := id hl
  cases (show cls = _ from hc)
  cases (show data = _ from hd)
  have ty : s.TypeIs (.ref l) "list" := ⟨_, ho, rfl⟩
  show wpAny _ A (do return .bool (!(← contains (.ref l) x))) Q E s
  refine wpAny_bind (wpAny_contains_slot ty F.slot_list_contains (wpAny_mono (call_meetsIn F.slot_list_contains ty F.entry_list_contains (F.args_list_contains_2 _ _) (listD (n := n) (dd := dd) (sl := sl) (x := x) (e := e)) (Q := fun v s' => ∃ b, v = .bool b ∧ Q (.bool !b) s') (E := E) ⟨ho, he, _, rfl, h⟩) (fun v s' hv => ?_) fun _ _ z => z))
  obtain ⟨b, rfl, q⟩ := hv
  exact wpAny_truthy_bool (wpAny_pure q)
end
theorem vals_refs : ∀ {bs : List Addr} {its : List Value}, Vals (bs.map V.ref) its → its = bs.map Value.ref
  | [], _, h => by cases h; rfl
  | b :: bs, _, h => by
    cases h with
    | cons r t =>
      rename_i y ys
      cases (show y = Value.ref b from r)
      rw [List.map_cons, vals_refs t]
/-- x not in l: dicts of flat things, none of them x itself -/
def rNotInDF (K : PySem.W.Frag) : R2 := fun x y H Q => ∃ (a l : Addr) (ks : List (Key × V)) (bs : List Addr) (e : Addr → Bool), x = .ref a ∧ y = .ref l ∧ H a = some (.dK ks) ∧ (∀ k u, valV ks k = some u → flatV u = true) ∧ SqL K H l (bs.map V.ref) ∧
  (∀ b ∈ bs, b ≠ a ∧ ∃ ls, H b = some (.dK ls) ∧ (∀ p ∈ ls, flatV p.2 = true) ∧ e b = (ls.length == ks.length && eqKv ls ks)) ∧ Q (.bl (!bs.any e)) H
theorem op_notInDF {X : Cx} (hu : X.A.units + 64 < cLine) : OpR X (compareOp .NotIn) (rNotInDF X.K) := by
  rintro pins s σ H x y v u Q I rx ry ⟨a, l, ks, bs, e, rfl, rfl, ha, fa, hl, hb, q⟩
  cases (show v = Value.ref a from rx)
  cases (show u = Value.ref l from ry)
  obtain ⟨_, ya, va, ra, da⟩ := (show ObjOk X.prog X.w H s.heap a (.dK ks) from I.hok a _ ha)
  obtain ⟨its, rv, ⟨⟨cls, dd, data, sls⟩, n, ho, hc, hdn, hdt⟩, hlen⟩ := I.list hl
  simp only at hc hdt
  subst hc hdt
  have la : ks.length = va.length := by unfold KV at ra; exact ra.length
  obtain rfl := vals_refs rv
  refine notInD (fun z => match z with | .ref b => e b | _ => false) ⟨_, ho, rfl, n, rfl⟩ (fun z hz => ?_) ?_
  · have hz : z ∈ bs.map Value.ref := by simpa using hz
    obtain ⟨b, hm, rfl⟩ := List.mem_map.mp hz
    obtain ⟨ne, ls, hbl, fl, he⟩ := hb b hm
    obtain ⟨_, yb, vb, rb, db⟩ := (show ObjOk X.prog X.w H s.heap b (.dK ls) from I.hok b _ hbl)
    have lb : ls.length = vb.length := by unfold KV at rb; exact rb.length
    refine PySem.SeqAt.EqIn.of_refs ne fun E Q h => ?_
    show wpAny (model X.prog X.w) X.A.in1 (compareOp .Eq (.ref b) (.ref a)) Q E s
    have hu2 : X.A.in1.units < cLine := (show X.A.units + 1 < cLine by omega)
    refine PySem.W.keq_eq (knd := mixKind X.prog X.w) (r := eqKv ls ks) yb ya db da hu2 (fun _ => hits_flatA ra fa rb fl) ?_
    rw [← la, ← lb, ← he]
    exact h
  · have e2 : ((bs.map Value.ref).toArray.any fun z => match z with | .ref b => e b | _ => false) = bs.any e := by
      rw [← Array.any_toList]
      simp only [List.any_map]
      rfl
    rw [e2]
    exact ⟨.bl _, H, I, rfl, q⟩
end Own
set_option Elab.async false
set_option linter.all false
set_option maxRecDepth 100000
set_option maxHeartbeats 2000000
/-! a dict behind a star: its keys -/
namespace Own
open PySem PySem.Spec PyProof.Rows L2
section
variable {X : Cx} {pins : List (Addr × Obj)} {σ : L2.St} {H : Hp} {s : Shared}
theorem star_dict {a : Addr} {kvs : List (Key × V)} {E : Value → Shared → Prop} {Q : List Value → Shared → Prop} (I : L2.Inv X pins σ H s) (hcalm : X.calm = true) (hd : Rd H a (.dK kvs)) (hQ : ∀ us s', L2.Inv X pins σ H s' → Vals (kvs.map fun kv => kV kv.1) us → Q us s') : PySem.W.StarOf (model X.prog X.w) X.A E (.ref a) Q s := by
  obtain ⟨z, lo, vs, rel, dd⟩ := dk_rd I.hok hd
  obtain ⟨ep, hat⟩ := dd.dictAt
  have ek : (kvs.map fun kv => kV kv.1) = vs.map fun p => kV p.1 := by
    have e := congrArg (List.map kV) rel.keys
    rw [List.map_map, List.map_map] at e
    exact e
  unfold PySem.W.StarOf notIterableAtAll
  refine wpAny_bind (wpAny_specialOf hat.dictOf.typeIs PySem.F.slot_dict_iter.lookup (wpAny_pure ⟨rfl, ?_⟩))
  refine PySem.W.kdu_collect (PySem.W.kdl_dict (knd := mixKind X.prog X.w) (kvs := vs) (ep := ep) lo) (I.ok.hd hcalm) hat (by rw [← rel.length]; exact z) fun h' tk acc hk hacc => ?_
  refine hQ _ _ (I.kept (t' := tk) hk) ?_
  rw [ek]
  exact keys_at (by rw [Array.length_toList]; exact hacc.1) fun j v e => hacc.2 j v (by rw [← Array.getElem?_toList]; exact e)
end
section
variable {X : Cx} {e : Expr} {es : List Expr} {te : TE} {t : TA} {p : Pos}
def tStarD (te : TE) (t : TA) : TA := fun σ H Q => te σ H fun x H1 => ∃ a kvs, x = V.ref a ∧ Rd H1 a (.dK kvs) ∧ t σ H1 fun ys H2 => Q ((kvs.map fun kv => kV kv.1) ++ ys) H2
theorem pa_starD (hcalm : X.calm = true) (he : PE X e te) (hr : PA X es t) (hs : starEach (.Starred e p :: es) X.env = (true, eval e X.env) :: starEach es X.env := by rfl) : PA X (.Starred e p :: es) (tStarD te t) := by
  refine ⟨fun pos pins s σ H Q I h => ?_⟩
  refine PySem.W.items_star (thn (he.run pins s σ H _ I h) fun v s1 ⟨y, H1, I1, ry, a, kvs, ey, hx, q⟩ => ?_) hs
  subst ey
  obtain rfl : v = Value.ref a := ry
  refine star_dict I1 hcalm hx fun us s2 I2 rv => ?_
  exact thn (hr.run pos pins s2 σ H1 _ I2 q) fun ws s3 ⟨vs, H3, I3, r3, q3⟩ => ⟨_ ++ vs, H3, I3, rv.append r3, q3⟩
end
end Own
set_option Elab.async false
set_option linter.all false
set_option maxRecDepth 100000
/-! a list of anything != [] -/
namespace Own
open PySem PySem.Spec PyProof.Rows L2
def rNeNil (K : PySem.W.Frag) : R2 := fun x y H Q => ∃ a b xs, x = .ref a ∧ y = .ref b ∧ SqL K H a xs ∧ SqL K H b [] ∧ Q (.bl (!xs.isEmpty)) H
theorem op_neNil {X : Cx} (hu : X.A.units + 64 < cLine) : OpR X (compareOp .NotEq) (rNeNil X.K) := by
  rintro pins s σ H x y v u Q I rx ry ⟨a, b, xs, rfl, rfl, ha, hb, q⟩
  cases (show v = Value.ref a from rx)
  cases (show u = Value.ref b from ry)
  obtain ⟨us, r1, p1, _⟩ := I.list ha
  obtain ⟨ws, r2, p2, _⟩ := I.list hb
  cases r2
  cases r1 with
  | nil => exact SeqAt.RcNeAt.lists (e := fun _ => true) p1.isList p2.isList rfl (by omega) (fun j h _ => absurd h (Nat.not_lt_zero _)) _ _ _ _ ⟨.bl _, H, I, rfl, q⟩
  | cons h t => exact SeqAt.RcNeAt.lists_lengths p1.isList p2.isList (by simp) (by omega) _ _ _ _ ⟨.bl _, H, I, rfl, q⟩
def rEqNil (K : PySem.W.Frag) : R2 := fun x y H Q => ∃ a b xs, x = .ref a ∧ y = .ref b ∧ SqL K H a xs ∧ SqL K H b [] ∧ Q (.bl xs.isEmpty) H
theorem op_eqNil {X : Cx} (hu : X.A.units + 64 < cLine) : OpR X (compareOp .Eq) (rEqNil X.K) := by
  rintro pins s σ H x y v u Q I rx ry ⟨a, b, xs, rfl, rfl, ha, hb, q⟩
  cases (show v = Value.ref a from rx)
  cases (show u = Value.ref b from ry)
  obtain ⟨us, r1, p1, _⟩ := I.list ha
  obtain ⟨ws, r2, p2, _⟩ := I.list hb
  cases r2
  cases r1 with
  | nil => exact SeqAt.RcAt.lists (e := fun _ => true) p1.isList p2.isList rfl (by omega) (fun j h _ => absurd h (Nat.not_lt_zero _)) _ _ _ _ ⟨.bl _, H, I, rfl, q⟩
  | cons h t => exact SeqAt.RcAt.lists_lengths p1.isList p2.isList (by simp) (by omega) _ _ _ _ ⟨.bl _, H, I, rfl, q⟩
/-! x not in d.values() -/
def rNotInVals (K : PySem.W.Frag) : R2 := fun x y H Q => ∃ v d kvs, y = .ref v ∧ H v = some (VvO d v) ∧ Rd H d (.dK kvs) ∧ flatV x = true ∧ (kvs.map (·.2)).all flatV = true ∧ Q (.bl (!inV x (kvs.map (·.2)))) H
theorem op_notInVals {X : Cx} (hc : X.calm = true) : OpR X (compareOp .NotIn) (rNotInVals X.K) := by
  intro pins s σ H x y v u Q I rx ry ⟨va, d, kvs, ey, hv, hd, fx, fs, q⟩
  subst ey
  cases (show u = Value.ref va from ry)
  have view : s.heap.IsValuesView va d := (show ObjOk X.prog X.w H s.heap va (VvO d va) from I.hok va _ hv).1
  obtain ⟨hz, hsys, vs, rel, dof⟩ := dk_rd I.hok hd
  obtain ⟨ep, dat⟩ := dof.dictAt
  have hT := view.typeIs
  have hlv : kvs.length = vs.length := by unfold KV at rel; exact rel.length
  have hvals : Vals (kvs.map (·.2)) (vs.map (·.2)) := paired_ix (by rw [List.length_map, List.length_map]; exact hlv) fun i z e => by
    rw [List.getElem?_map] at e
    cases e2 : vs[i]? with
    | none => rw [e2] at e; cases e
    | some p =>
      rw [e2] at e
      obtain ⟨y, h1, h2⟩ := KV.at' rel (i := i) (k := p.1) (v := p.2) e2
      obtain rfl : p.2 = z := Option.some.inj e
      exact ⟨y, by rw [List.getElem?_map, h1]; rfl, h2⟩
  show wpAny (model X.prog X.w) X.A ((contains (.ref va) v) >>= fun b => pure (Value.bool !b)) (EP X pins σ Q) X.xe s
  refine wpAny_bind ?_
  unfold contains
  refine wpAny_holding ?_
  have e0 : stdlibNamesSay? (.ref va) v = none := by
    first | rfl | (cases v <;> rfl)
  simp only [e0]
  refine wpAny_bind (wpAny_specialOf hT vals_noc ?_)
  refine wpAny_ite_split (fun hab => absurd hab (by decide)) (fun _ => ?_)
  unfold callSpecialUnlessNone?
  refine wpAny_bind (wpAny_bind (wpAny_specialOf hT vals_noc ?_))
  refine wpAny_pure ?_
  refine wpAny_bind (wpAny_rule ?_)
  refine wpAny_bind (wpAny_tryCatch (wpAny_pyIter_values (knd := mixKind X.prog X.w) view dat ?_))
  have kp : ∀ b o, s.heap.get? b = some o → (s.heap.push { cls := .type "dict_valueiterator", data := .fields #[.ref d, .int 0 0, .int vs.length 0, .int ep 0] }).get? b = some o := fun b o e => Heap.get?_push_of_some _ e
  have hit : (s.heap.push { cls := .type "dict_valueiterator", data := .fields #[.ref d, .int 0 0, .int vs.length 0, .int ep 0] }).IsValIter s.heap.objs.size d 0 vs.length ep := ⟨_, Heap.get?_push_size _ rfl, rfl, rfl⟩
  have ne : d ≠ s.heap.objs.size := Nat.ne_of_lt dat.lt_size
  have W := Walks.dictValues (prog := X.prog) (w := X.w) (A := X.A.in1.in1) (knd := mixKind X.prog X.w) (I.ok.hd hc) s.heap.objs.size d ne vs ep
  have ln : (vs.map (·.2)).length = vs.length := List.length_map ..
  have W2 : Walks X.prog X.w X.A.in1 s.heap.objs.size [s.heap.objs.size, d] [s.heap.objs.size] (vs.map (·.2)).length (fun i v => (vs.map (·.2))[i]? = some v) (fun i h => h.IsValIter s.heap.objs.size d i vs.length ep ∧ h.DictAt (mixKind X.prog X.w) d vs ep) :=
    ⟨W.of_in1.sub, W.of_in1.frame, fun i s Q E hi st hQ => W.of_in1.item i s Q E (by rw [ln] at hi; exact hi) st fun z h' tk hP => hQ z h' tk (by
      obtain ⟨k, e⟩ := hP
      rw [List.getElem?_map, e]
      rfl), fun s Q E st hQ => W.of_in1.done s Q E (by rw [ln] at st; exact st) hQ, W.of_in1.self⟩
  refine wpAny_bind (wpAny_runValue (citer_loop W2 v (eqU x) (fun z hz s' => mem_eqAt rx ‹_› hvals fs z hz) _ 0 { s with heap := _ } rfl (Nat.zero_le _) ⟨hit, dat.push _⟩ fun h' tk hm => ?_))
  have kp2 : ∀ b o, s.heap.get? b = some o → h'.get? b = some o := fun b o e => hm b o (fun z => by
    rw [List.mem_singleton.mp z] at e
    exact Nat.lt_irrefl _ (Heap.lt_size e)) (kp b o e)
  have fin : wpAny (model X.prog X.w) X.A (pure (Value.bool (!inV x (kvs.map (·.2))))) (EP X pins σ Q) X.xe { s with heap := h', toks := tk } := wpAny_pure ⟨.bl _, H, I.kept (t' := tk) kp2, rfl, q⟩
  rw [List.drop_zero, any_eqU hvals fs]
  exact wpAny_pure fin
end Own
set_option Elab.async false
set_option linter.all false
set_option maxRecDepth 100000
/-! how often a text stands in a list of texts -/
namespace Own
open PySem PySem.Spec PyProof.Rows L2
theorem countU_strs {k : Str} : ∀ {zs : List Str} {us : List Value}, Vals (zs.map V.str) us → us.countP (eqU (.str k)) = zs.count k
  | [], _, .nil => rfl
  | z :: zs, u :: us, .cons r t => by
    have ih := countU_strs (k := k) t
    rw [List.countP_cons, List.count_cons, ih, eqU_of r rfl]
    rfl
def rCntS (K : PySem.W.Frag) : V → List V → Hp → VK → Prop := fun x xs H Q => ∃ (a : Addr) (zs : List Str) (k : Str), x = .ref a ∧ xs = [.str k] ∧ SqL K H a (zs.map V.str) ∧ Q (.int (zs.count k : Nat)) H
theorem mt_scount {X : Cx} : MtR X "list.count" (rCntS X.K) := by
  rintro pins s σ H x xs v us Q I rx rxs ⟨a, zs, k, rfl, rfl, ha, q⟩
  cases rx
  obtain ⟨u, rfl, ru⟩ := rxs.one
  obtain ⟨its, rv, ⟨⟨cls, dd, data, sl⟩, n, ho, hc, hdn, hd⟩, hlen⟩ := I.list ha
  simp only at hc hd
  subst hc hd
  have fl : (zs.map V.str).all flatV = true := List.all_eq_true.mpr fun z m => by
    obtain ⟨y, _, rfl⟩ := List.mem_map.mp m
    rfl
  refine call_meets PySem.F.slot_list_count ⟨_, ho, rfl⟩ PySem.F.entry_list_count (PySem.F.args_list_count_2 _ _)
    (SeqAt.list_countAt a its.toArray n dd sl u (eqU (.str k))) ⟨ho, fun y hy => mem_eqAt ru rfl rv fl y (by simpa using hy), ?_⟩
  have ec : its.toArray.toList.countP (eqU (.str k)) = zs.count k := countU_strs rv
  refine ⟨.int (zs.count k : Nat), H, I.tok _, ⟨s.toks, ?_⟩, q⟩
  rw [ec]
theorem scntOf {X : Cx} {K : PySem.W.Frag} (h : X.K = K) : MtR X "list.count" (rCntS K) := h ▸ mt_scount
theorem ixDOf {X : Cx} {K : PySem.W.Frag} (h : X.K = K) (hu : X.A.units + 65 < cLine) : MtR X "list.index" (rIndexD K) := h ▸ mt_indexD hu
theorem inDOf {X : Cx} {K : PySem.W.Frag} (h : X.K = K) (hu : X.A.units + 65 < cLine) : OpR X (compareOp .In) (rInD K) := h ▸ op_inD hu
theorem bmOf {X : Cx} {K : PySem.W.Frag} (h : X.K = K) {T id : String} {name : Str} {o e : Expr} {es : List Expr} {to : TE} {t : TA} {r : V → List V → Hp → VK → Prop} {apos cpos : Pos} (pa : PlainAttrs T) (slot : Slot T name id) (hty : typeOf (.builtin id) = pure (.type "method_descriptor")) (hm : MtR X id r) (ho : PE X o to) (ha : PA X (e :: es) t)
    (hbase : attributeBase o name X.env (eval o X.env) = eval o X.env := by rfl)
    (hfew : ((backTo cpos (starEach (e :: es) X.env)).all (fun x => !x.1) && (backToKw cpos (keywordEach [] X.env)).all (fun x => x.1.isSome)
      && decide ((e :: es).length + ([] : List Keyword).length + (if ([] : List Keyword).isEmpty then 0 else 1) < 30)) = true := by rfl)
    (hline : (apos.endLine == cpos.line) = true := by rfl) (hs : starEach (e :: es) X.env = (false, eval e X.env) :: starEach es X.env := by rfl) (hplain : (backTo cpos (starEach es X.env)).any (·.1) = false := by rfl) :
    PE X (.Call (.Attribute o name apos) (e :: es) [] cpos) (tBM K T r to t) := h ▸ pe_bm pa slot hty hm ho ha hbase hfew hline hs hplain
end Own
set_option Elab.async false
set_option linter.all false
set_option maxRecDepth 100000
/-! a != b of two dicts of the same keys, whose values are equal data -/
namespace Own
open PySem PySem.Spec PyProof.Rows L2
theorem hits_dd {X : Cx} {pins : List (Addr × Obj)} {σ : L2.St} {H : Hp} {s : Shared} (I : L2.Inv X pins σ H s) (hu : X.A.units + 65 < cLine) {ls : List (Key × V)} {vb : List (Key × Value)} (rb : KV ls vb) {ks : List (Key × V)} {va : List (Key × Value)}
    (ra : KV ks va) : (∀ p ∈ ks, ∃ u d d', valV ls p.1 = some u ∧ Dp X.K H p.2 d ∧ Dp X.K H u d' ∧ SeqAt.shaped d = true ∧ SeqAt.shaped d' = true ∧ PyData.eqv d d' = true) → PySem.W.KeqHits X.A.in1 s vb va true := by
  unfold KV at ra
  induction ra with
  | nil => intro _; exact .nil
  | @cons p q ps qs h t k =>
    intro hp
    obtain ⟨h1, h2⟩ := h
    obtain ⟨u, d, d', e, dp, du, sd, su, ee⟩ := hp p List.mem_cons_self
    have rr : RelO (some u) (valueAt vb p.1) := by rw [← e]; exact rb.val p.1
    obtain ⟨y, hy, ry⟩ := rr.some_of
    obtain ⟨key, v⟩ := q
    have h1' : p.1 = key := h1
    rw [h1'] at hy
    obtain ⟨as, r1⟩ := Dp.reads I d p.2 v dp h2
    obtain ⟨bs, r2⟩ := Dp.reads I d' u y du ry
    have hr := room_in_shaped (A := X.A) (xs := [d]) su hu
    have he : SeqAt.EqAt X.A.in1 s v y (PyData.eqv d d') := SeqAt.eqAt_reads d d' X.A.in1 s v y as bs r1 r2 (SeqAt.canLay_of_shaped sd) (SeqAt.canLay_of_shaped su) (by
      have h2 := Nat.le_max_left d.depth (PyData.depthAll [])
      have h3 : PyData.depthAll [d] = max d.depth (PyData.depthAll []) := rfl
      show X.A.units + 1 + min d.depth d'.depth < cLine
      omega)
    rw [ee] at he
    show PySem.W.KeqHits X.A.in1 s vb ((key, v) :: qs) (true && true)
    exact .hit hy he (k fun p' hm => hp p' (List.mem_cons_of_mem _ hm))
def rNeDD (K : PySem.W.Frag) : R2 := fun x y H Q => ∃ a b ks ls, x = .ref a ∧ y = .ref b ∧ H a = some (.dK ks) ∧ H b = some (.dK ls) ∧ ks.length = ls.length ∧
  (∀ p ∈ ks, ∃ u d d', valV ls p.1 = some u ∧ Dp K H p.2 d ∧ Dp K H u d' ∧ SeqAt.shaped d = true ∧ SeqAt.shaped d' = true ∧ PyData.eqv d d' = true) ∧ Q (.bl false) H
theorem op_neDD {X : Cx} (hu : X.A.units + 65 < cLine) : OpR X (compareOp .NotEq) (rNeDD X.K) := by
  rintro pins s σ H x y v u Q I rx ry ⟨a, b, ks, ls, rfl, rfl, ha, hb, hl, hp, q⟩
  cases (show v = Value.ref a from rx)
  cases (show u = Value.ref b from ry)
  obtain ⟨_, ya, va, ra, da⟩ := (show ObjOk X.prog X.w H s.heap a (.dK ks) from I.hok a _ ha)
  obtain ⟨_, yb, vb, rb, db⟩ := (show ObjOk X.prog X.w H s.heap b (.dK ls) from I.hok b _ hb)
  have la : ks.length = va.length := by unfold KV at ra; exact ra.length
  have lb : ls.length = vb.length := by unfold KV at rb; exact rb.length
  refine PySem.W.keq_ne (knd := mixKind X.prog X.w) (r := true) ya yb da db (by omega) (fun _ => hits_dd I hu rb ra hp) ?_
  rw [show va.length = vb.length by omega, show (!(vb.length == vb.length && true)) = false by simp]
  exact ⟨.bl _, H, I, rfl, q⟩
end Own
set_option Elab.async false
set_option linter.all false
set_option maxRecDepth 100000
set_option maxHeartbeats 2000000
/-! an instance with an own __iter__ behind a star: the keys of the dict that it walks -/
namespace Own
open PySem PySem.Spec PyProof.Rows L2
section
variable {X : Cx} {CX : CXT} {C f g : Addr} {fd gd : FuncData} {ps qs : List Str} {n m : Nat} {sp : Nat → Sp} {sl : Sp} {E : XK}
theorem key_loopR {pins : List (Addr × Obj)} {σ : L2.St} {A : Around} {Rs : Result → Shared → Prop} {S d it : Addr} {od : Obj} {kvs : List (Key × V)} {ep : Nat} {es : Array DictEntry} {rt : Value} (hh : A.handled = none) (hod : od.data = .dict es ep) (hz : kvs.length ≤ sizeLine) (hS : S ≠ it) (hSd : S ≠ d)
    : ∀ (k i : Nat) (H : Hp) (s : Shared), kvs.length - i = k → i ≤ kvs.length → L2.Inv X pins σ H s → FpOk X pins H it → H d = some (.frz od (.dK kvs)) → H S = some (.lst ((kvs.take i).map fun p => kV p.1)) → s.heap.IsKeyIter it d i kvs.length ep →
      (∀ s', L2.Inv X pins σ (upd H S (.lst (kvs.map fun p => kV p.1))) s' → Rs (.ok (.ret rt)) s') →
      codeAny (model X.prog X.w) A (.builtin "list.extend.loop" ⟨[.ref S, .ref it, rt], []⟩) Rs s := by
  intro k
  induction k with
  | zero =>
    intro i H s hk hi I fp hd hl st hR
    have e : i = kvs.length := by omega
    subst e
    obtain ⟨f0, f1, f2, f3, f4, f5⟩ := fp
    obtain ⟨_, hgd, _, es2, ep2, vs, hdt, hsz, kv, hm⟩ := I.frzK hd
    obtain ⟨e1, e2⟩ := dict_ep hod hdt
    subst e1
    subst e2
    refine codeAny_builtin PySem.F.entry_extend_loop ?_
    rw [Around.under_plainId PySem.F.plain_extend_loop _]
    show wpAny _ A.in1 (pyNext (.ref it) >>= _) _ _ s
    refine wpAny_bind (next_key_end hh st hgd hdt hsz (Nat.le_refl _) fun h' eb => ?_)
    have I1 := I.turned (t' := s.toks) (fun b o hb e => eb b o hb e) f0 f1 f3 f4 f5
    rw [List.take_length] at hl
    refine wpAny_pure (hR _ ?_)
    rw [show upd H S (.lst (kvs.map fun p => kV p.1)) = H from by
      funext b
      by_cases hb : b = S
      · rw [hb, upd_same, hl]
      · rw [upd_ne hb]]
    exact I1
  | succ k ih =>
    intro i H s hk hi I fp hd hl st hR
    have hlt : i < kvs.length := by omega
    obtain ⟨f0, f1, f2, f3, f4, f5⟩ := fp
    obtain ⟨_, hgd, _, es2, ep2, vs, hdt, hsz, kv, hm⟩ := I.frzK hd
    obtain ⟨e1, e2⟩ := dict_ep hod hdt
    subst e1
    subst e2
    have hlv : kvs.length = vs.length := Paired.length kv
    obtain ⟨u, hu, ru⟩ := kv_get kv (show kvs[i]? = some (kvs[i].1, kvs[i].2) from List.getElem?_eq_getElem hlt)
    refine codeAny_builtin PySem.F.entry_extend_loop ?_
    rw [Around.under_plainId PySem.F.plain_extend_loop _]
    show wpAny _ A.in1 (pyNext (.ref it) >>= _) _ _ s
    rw [hlv] at st
    refine wpAny_bind (wpAny_pyNext_dict_item st hm hu fun key h' hkey st' sb => ?_)
    have I1 : L2.Inv X pins σ H { s with heap := h' } := I.turned (t' := s.toks) (fun b ob hb e => (sb.2 b hb).trans e) f0 f1 f3 f4 f5
    obtain ⟨z, its, cc, r2, hln, e⟩ := I1.lstM hl
    have lt2 : its.length = i := by rw [← hln, List.length_map, List.length_take]; omega
    show wpAny _ A.in1 (updateSeq S (·.push key) >>= _) _ _ _
    have et : (kvs.take (i + 1)).map (fun p => kV p.1) = (kvs.take i).map (fun p => kV p.1) ++ [kV kvs[i].1] := by rw [List.take_succ, List.getElem?_eq_getElem hlt, List.map_append]; rfl
    refine wpAny_bind (wpAny_updateSeq e rfl (wpAny_pure ⟨plainId_quiet PySem.F.plain_extend_loop _, ?_⟩) (by rw [List.size_toArray]; omega) (by show (its.toArray.push key).size ≤ sizeLine + 1; rw [Array.size_push, List.size_toArray]; omega))
    have I3 := I1.lset (f := (·.push key)) (its' := its ++ [key]) (t' := s.toks) hl e (by simp) (r2.append (.cons (relV_key (show keyIs kvs[i].1 key = true from hkey)) .nil)) (by rw [List.length_append, List.length_singleton, List.length_map, List.length_take]; omega)
    rw [← et] at I3
    have hit2 : (upd H S (.lst ((kvs.take (i + 1)).map fun p => kV p.1))) it = none := by rw [upd_ne hS.symm]; exact f0
    refine ih (i + 1) _ _ (by omega) hlt I3 ⟨hit2, f1, f2, f3, f4, f5⟩ (by rw [upd_ne hSd.symm]; exact hd) upd_same ?_ (fun s' J => hR s' (by rw [upd_upd] at J; exact J))
    show (h'.update S _).IsKeyIter it d (i + 1) kvs.length _
    rw [hlv]
    exact st'.at fun o e => (Heap.get?_update_other _ _ hS).trans e
theorem list_fillR {pins : List (Addr × Obj)} {σ : L2.St} {A : Around} {Rs : Result → Shared → Prop} {S a dx : Addr} {fs : List (Str × V)} {H : Hp} {s : Shared} {Q : VK} {rt : Value}
    (F : ∀ base, FnOk X.prog X.w X.K X.mg base CX n f fd ps (sp base.objs.size)) (hb : L2.Binds X.K fd ps []) (hx : Passes CX X E) (hr : Room n A.in1) (hfr : A.in1.frames = X.A.frames) (hh : A.handled = none)
    (hs : PySem.W.findIn X.K (.ref C) "__iter__" = some (some (.ref f))) (hf : PySem.W.isFn X.K (.ref f) = true) (n1 : PySem.W.findIn X.K (.ref C) "__len__" = some none) (n2 : PySem.W.findIn X.K (.ref C) "__length_hint__" = some none)
    (I : L2.Inv X pins σ H s) (ha : H a = some (.ins C dx fs)) (hS : H S = some (.lst [])) (hsp : ∀ m, sp m [.ref a] H (ListTold C a S Q m) E)
    (done : ∀ H' s', L2.Inv X pins σ H' s' → Q (.ref S) H' → Rs (.ok (.ret rt)) s') (bad : ∀ e s', X.xe e s' → Rs (.error e) s') :
    wpAny (model X.prog X.w) A.in1 (Builtin.List.listExtendWith (.ref S) (.ref a) rt)
      (fun fin s' => match fin with | .done g => Rs (.ok g) s' | .again c' => c'.quiet = true ∧ codeAny (model X.prog X.w) A c' Rs s') (fun e s' => Rs (.error e) s') s := by
  have neS : S ≠ a := ne_of hS ha (fun z => nomatch z)
  obtain ⟨mA, J, _⟩ := ins_get I.hok ha
  obtain ⟨od0, J, _⟩ := J.look
  have t1 : Builtin.List.listSameRef (.ref S) (.ref a) = false := by simp [Builtin.List.listSameRef, neS]
  have t2 : (Value.ref C == Value.type "list" || Value.ref C == Value.type "tuple") = false := rfl
  unfold Builtin.List.listExtendWith
  refine wpAny_bind (J.type.here ?_)
  rw [t1, Bool.false_or]
  simp only [t2, Bool.false_eq_true, if_false]
  refine wpAny_bind (wpAny_mono (own_it F hb hx hr hfr hs hf (fun m v H2 ⟨it, d, od, kvs, e1, e2, _⟩ => ⟨it, d, od, e1, e2⟩) I ha hsp) (fun u s2 h2 => ?_) bad)
  obtain ⟨it0, H2, eu, I2, it, d, od, kvs, e0, hi, hd, hS2, hz, ⟨dx2, fs2, ha2⟩, hQ⟩ := h2
  subst eu
  have e9 : it = it0 := by cases e0; rfl
  subst e9
  obtain ⟨mB, J2, _⟩ := ins_get I2.hok ha2
  obtain ⟨od2, J2, _⟩ := J2.look
  refine wpAny_bind (wpAny_holding (hint_no n1 n2 I2.kIn J2 ?_))
  obtain ⟨es, ep, hod, hk⟩ := (show ObjOk X.prog X.w H2 s2.heap it (KiO d od it) from I2.hok it _ hi).1
  obtain ⟨_, _, _, es2, ep2, vs, hdt, hsz, kv, hm⟩ := I2.frzK hd
  obtain ⟨e1, e2⟩ := dict_ep hod hdt
  subst e1
  have nSi : S ≠ it := fun e => by rw [e, hi] at hS2; cases hS2
  have nSd : S ≠ d := fun e => by rw [e, hd] at hS2; cases hS2
  have ndi : d ≠ it := fun e => by rw [e, hi] at hd; cases hd
  have hzk : kvs.length ≤ sizeLine := (dk_rd I2.hok (.inr ⟨od, hd⟩)).1
  have I3 := ItX.inv_drop I2 hi
  have fp := ItX.inv_fp I2 hi (Nat.le_trans I.sz hz)
  have hS3 : ItX.dropH H2 it S = some (.lst []) := (ItX.dropH_ne nSi).trans hS2
  have hd3 : ItX.dropH H2 it d = some (.frz od (.dK kvs)) := (ItX.dropH_ne ndi).trans hd
  generalize ItX.dropH H2 it = H3 at I3 fp hS3 hd3 hQ
  have go : ∀ (s' : Shared), L2.Inv X pins σ H3 s' → s'.heap.IsKeyIter it d 0 kvs.length ep → codeAny (model X.prog X.w) A (.builtin "list.extend.loop" ⟨[.ref S, .ref it, rt], []⟩) Rs s' := fun s' I' st' =>
    key_loopR hh hod hzk nSi nSd _ 0 H3 s' rfl (Nat.zero_le _) I' fp hd3 hS3 st' fun s'' I'' => done _ s'' I'' hQ
  rw [hsz] at hk
  obtain ⟨zz, its, cc, r3, ln3, e3⟩ := I3.lstM hS3
  cases r3
  refine wpAny_ite_split (fun _ => ?_) (fun _ => wpAny_pure ⟨plainId_quiet PySem.F.plain_extend_loop _, go s2 I3 hk⟩)
  refine wpAny_bind (wpAny_rule (wpAny_bind ?_))
  show wpAny _ _ (updateSeq S (·.push .none) >>= fun _ => updateSeq S (·.pop)) _ _ _
  refine wpAny_bind (wpAny_updateSeq e3 rfl ?_)
  have J1 := I3.lset (f := (·.push Value.none)) (its' := [Value.none]) (ys := [V.non]) (t' := s2.toks) hS3 e3 (by simp) (.cons rfl .nil) (by rw [List.length_singleton, sizeLine_eq]; decide)
  obtain ⟨z4, its4, c4, r4, ln4, e4⟩ := J1.lstM upd_same
  obtain ⟨u4, rfl, ru4⟩ := r4.one
  refine wpAny_updateSeq e4 rfl (wpAny_pure ⟨plainId_quiet PySem.F.plain_extend_loop _, go _ ?_ ?_⟩) (by show 1 ≤ sizeLine; rw [sizeLine_eq]; decide) (by show 0 ≤ sizeLine + 1; exact Nat.zero_le _)
  · have J2 := J1.lset (f := (·.pop)) (its := [u4]) (its' := []) (ys := []) (t' := s2.toks) upd_same e4 (by rfl) .nil (Nat.zero_le _)
    rw [upd_upd, show upd H3 S (.lst []) = H3 from by
      funext b
      by_cases hb : b = S
      · rw [hb, upd_same, hS3]
      · rw [upd_ne hb]] at J2
    exact J2
  · exact hk.at fun o e => (Heap.get?_update_other _ _ nSi).trans ((Heap.get?_update_other _ _ nSi).trans e)
theorem list_fillLR {pins : List (Addr × Obj)} {σ : L2.St} {A : Around} {Rs : Result → Shared → Prop} {S a dx : Addr} {fs : List (Str × V)} {H : Hp} {s : Shared} {Q : VK} {rt : Value}
    (F : ∀ base, FnOk X.prog X.w X.K X.mg base CX n f fd ps (sp base.objs.size)) (hb : L2.Binds X.K fd ps []) (hx : Passes CX X E) (hr : Room n A.in1) (hrm : Room (m + 1) A.in1) (hfr : A.in1.frames = X.A.frames) (hh : A.handled = none)
    (hs : PySem.W.findIn X.K (.ref C) "__iter__" = some (some (.ref f))) (hf : PySem.W.isFn X.K (.ref f) = true) (G : FnOk X.prog X.w X.K X.mg X.base CX0 m g gd qs sl) (hgb : L2.Binds X.K gd qs []) (n1 : PySem.W.findIn X.K (.ref C) "__len__" = some (some (.ref g))) (n2 : PySem.W.isFn X.K (.ref g) = true)
    (I : L2.Inv X pins σ H s) (ha : H a = some (.ins C dx fs)) (hS : H S = some (.lst [])) (hsp : ∀ m, sp m [.ref a] H (ListToldL C a S sl E Q m) E)
    (done : ∀ H' s', L2.Inv X pins σ H' s' → Q (.ref S) H' → Rs (.ok (.ret rt)) s') (bad : ∀ e s', X.xe e s' → Rs (.error e) s') :
    wpAny (model X.prog X.w) A.in1 (Builtin.List.listExtendWith (.ref S) (.ref a) rt)
      (fun fin s' => match fin with | .done g => Rs (.ok g) s' | .again c' => c'.quiet = true ∧ codeAny (model X.prog X.w) A c' Rs s') (fun e s' => Rs (.error e) s') s := by
  have neS : S ≠ a := ne_of hS ha (fun z => nomatch z)
  obtain ⟨mA, J, _⟩ := ins_get I.hok ha
  obtain ⟨od0, J, _⟩ := J.look
  have t1 : Builtin.List.listSameRef (.ref S) (.ref a) = false := by simp [Builtin.List.listSameRef, neS]
  have t2 : (Value.ref C == Value.type "list" || Value.ref C == Value.type "tuple") = false := rfl
  unfold Builtin.List.listExtendWith
  refine wpAny_bind (J.type.here ?_)
  rw [t1, Bool.false_or]
  simp only [t2, Bool.false_eq_true, if_false]
  refine wpAny_bind (wpAny_mono (own_it F hb hx hr hfr hs hf (fun m v H2 ⟨it, d, od, kvs, e1, e2, _⟩ => ⟨it, d, od, e1, e2⟩) I ha hsp) (fun u s2 h2 => ?_) bad)
  obtain ⟨it0, H2, eu, I2, it, d, od, kvs, e0, hi, hd, hS2, hz, ⟨dx2, fs2, ha2⟩, hL, hQ⟩ := h2
  subst eu
  have e9 : it = it0 := by cases e0; rfl
  subst e9
  obtain ⟨mB, J2, _⟩ := ins_get I2.hok ha2
  obtain ⟨od2, J2, _⟩ := J2.look
  refine wpAny_bind (wpAny_holding (hint_own G hgb hrm hfr n1 n2 I2 ha2 hL fun b9 s2 I2 => ?_))
  obtain ⟨es, ep, hod, hk⟩ := (show ObjOk X.prog X.w H2 s2.heap it (KiO d od it) from I2.hok it _ hi).1
  obtain ⟨_, _, _, es2, ep2, vs, hdt, hsz, kv, hm⟩ := I2.frzK hd
  obtain ⟨e1, e2⟩ := dict_ep hod hdt
  subst e1
  have nSi : S ≠ it := fun e => by rw [e, hi] at hS2; cases hS2
  have nSd : S ≠ d := fun e => by rw [e, hd] at hS2; cases hS2
  have ndi : d ≠ it := fun e => by rw [e, hi] at hd; cases hd
  have hzk : kvs.length ≤ sizeLine := (dk_rd I2.hok (.inr ⟨od, hd⟩)).1
  have I3 := ItX.inv_drop I2 hi
  have fp := ItX.inv_fp I2 hi (Nat.le_trans I.sz hz)
  have hS3 : ItX.dropH H2 it S = some (.lst []) := (ItX.dropH_ne nSi).trans hS2
  have hd3 : ItX.dropH H2 it d = some (.frz od (.dK kvs)) := (ItX.dropH_ne ndi).trans hd
  generalize ItX.dropH H2 it = H3 at I3 fp hS3 hd3 hQ
  have go : ∀ (s' : Shared), L2.Inv X pins σ H3 s' → s'.heap.IsKeyIter it d 0 kvs.length ep → codeAny (model X.prog X.w) A (.builtin "list.extend.loop" ⟨[.ref S, .ref it, rt], []⟩) Rs s' := fun s' I' st' =>
    key_loopR hh hod hzk nSi nSd _ 0 H3 s' rfl (Nat.zero_le _) I' fp hd3 hS3 st' fun s'' I'' => done _ s'' I'' hQ
  rw [hsz] at hk
  obtain ⟨zz, its, cc, r3, ln3, e3⟩ := I3.lstM hS3
  cases r3
  refine wpAny_ite_split (fun _ => ?_) (fun _ => wpAny_pure ⟨plainId_quiet PySem.F.plain_extend_loop _, go s2 I3 hk⟩)
  refine wpAny_bind (wpAny_rule (wpAny_bind ?_))
  show wpAny _ _ (updateSeq S (·.push .none) >>= fun _ => updateSeq S (·.pop)) _ _ _
  refine wpAny_bind (wpAny_updateSeq e3 rfl ?_)
  have J1 := I3.lset (f := (·.push Value.none)) (its' := [Value.none]) (ys := [V.non]) (t' := s2.toks) hS3 e3 (by simp) (.cons rfl .nil) (by rw [List.length_singleton, sizeLine_eq]; decide)
  obtain ⟨z4, its4, c4, r4, ln4, e4⟩ := J1.lstM upd_same
  obtain ⟨u4, rfl, ru4⟩ := r4.one
  refine wpAny_updateSeq e4 rfl (wpAny_pure ⟨plainId_quiet PySem.F.plain_extend_loop _, go _ ?_ ?_⟩) (by show 1 ≤ sizeLine; rw [sizeLine_eq]; decide) (by show 0 ≤ sizeLine + 1; exact Nat.zero_le _)
  · have J2 := J1.lset (f := (·.pop)) (its := [u4]) (its' := []) (ys := []) (t' := s2.toks) upd_same e4 (by rfl) .nil (Nat.zero_le _)
    rw [upd_upd, show upd H3 S (.lst []) = H3 from by
      funext b
      by_cases hb : b = S
      · rw [hb, upd_same, hS3]
      · rw [upd_ne hb]] at J2
    exact J2
  · exact hk.at fun o e => (Heap.get?_update_other _ _ nSi).trans ((Heap.get?_update_other _ _ nSi).trans e)
theorem iter_own {pins : List (Addr × Obj)} {σ : L2.St} {H : Hp} {s : Shared} {a dx : Addr} {fs : List (Str × V)} {E0 : Value → Shared → Prop} {Q : Bool → Shared → Prop} (I : L2.Inv X pins σ H s) (ha : H a = some (.ins C dx fs))
    (hs : PySem.W.findIn X.K (.ref C) "__iter__" = some (some (.ref f))) (hf : PySem.W.isFn X.K (.ref f) = true) (q : Q false s) : wpAny (model X.prog X.w) X.A (notIterableAtAll (.ref a)) Q E0 s := by
  obtain ⟨mA, J, _⟩ := ins_get I.hok ha
  obtain ⟨od0, J, _⟩ := J.look
  unfold notIterableAtAll specialOf
  refine wpAny_bind (wpAny_bind (J.type.here ((PySem.W.looks_findIn I.kIn hs).here ?_)))
  exact wpAny_pure q
/-- what lies in the list S that the walk filled -/
def StarQ (S : Addr) (k : List V → Hp → Prop) : VK := fun v H' => ∃ ys, H' S = some (.lst ys) ∧ k ys H'
theorem star_own {pins : List (Addr × Obj)} {σ : L2.St} {H : Hp} {s : Shared} {a dx : Addr} {fs : List (Str × V)} {k : List V → Hp → Prop} {R : List Value → Shared → Prop}
    (F : ∀ base, FnOk X.prog X.w X.K X.mg base CX n f fd ps (sp base.objs.size)) (hb : L2.Binds X.K fd ps []) (hx : Passes CX X E) (hc : X.calm = true) (hr : Room (n + 1) X.A)
    (hs : PySem.W.findIn X.K (.ref C) "__iter__" = some (some (.ref f))) (hf : PySem.W.isFn X.K (.ref f) = true) (n1 : PySem.W.findIn X.K (.ref C) "__len__" = some none) (n2 : PySem.W.findIn X.K (.ref C) "__length_hint__" = some none)
    (I : L2.Inv X pins σ H s) (ha : H a = some (.ins C dx fs)) (hq : ∀ S, H S = none → ∀ m, sp m [.ref a] (upd H S (.lst [])) (ListTold C a S (StarQ S k) m) E)
    (hR : ∀ us s' ys H', L2.Inv X pins σ H' s' → Vals ys us → k ys H' → R us s') : PySem.W.StarOf (model X.prog X.w) X.A X.xe (.ref a) R s := by
  unfold PySem.W.StarOf
  refine iter_own I ha hs hf ⟨rfl, ?_⟩
  unfold collect
  refine wpAny_bind (wpAny_runValue (codeAny_builtin PySem.F.entry_proto_collect ?_))
  rw [Around.under_plainId PySem.F.plain_proto_collect _]
  show wpAny _ X.A.in1 (newList [] >>= fun l => again (.builtin "list.__iadd__" ⟨[l, .ref a], []⟩)) _ _ s
  have fr : H s.heap.objs.size = none := I.hok.fresh (Nat.le_refl _)
  have I1 : L2.Inv X pins σ (upd H s.heap.objs.size (.lst [])) { s with heap := s.heap.push { cls := .type "list", data := .seq #[] } } := I.lnew (its := []) (t' := s.toks) .nil (Nat.zero_le _)
  refine wpAny_bind (wpAny_newObj_type ?_)
  refine wpAny_pure ⟨plainId_quiet PySem.F.plain_list_iadd _, codeAny_builtin PySem.F.entry_list_iadd ?_⟩
  rw [Around.under_plainId PySem.F.plain_list_iadd _]
  show wpAny _ X.A.in1 (Builtin.List.listExtendWith (.ref s.heap.objs.size) (.ref a) (.ref s.heap.objs.size)) _ _ _
  have key := list_fillR (A := X.A) (rt := .ref s.heap.objs.size) (Rs := wants (fun r s2 => r = .ref s.heap.objs.size ∧ EP X pins σ (StarQ s.heap.objs.size k) (.ref s.heap.objs.size) s2) X.xe) F hb hx (Room.in1 hr) rfl (I.ok.hd hc) hs hf n1 n2 I1 (by rw [upd_ne (ne_of_none ha fr)]; exact ha) upd_same (hq _ fr)
    (fun H' s' I' q => ⟨rfl, .ref _, H', I', rfl, q⟩) fun e s' he => he
  have fin : ∀ (q : Result) (s2 : Shared), wants (fun r s2 => r = .ref s.heap.objs.size ∧ EP X pins σ (StarQ s.heap.objs.size k) (.ref s.heap.objs.size) s2) X.xe q s2 →
      match q with
      | .ok (.ret v) => wpAny (model X.prog X.w) X.A (match v with
        | Value.ref a => do
          let __do_lift ← load a
          match __do_lift.data with
            | Data.seq xs epoch => pure xs.toList
            | x => unsupported "internal:collect"
        | x => unsupported "internal:collect") R X.xe s2
      | .ok _ => False
      | .error e => X.xe e s2 := fun q s2 y => by
    cases q with
    | error e => exact y
    | ok fl =>
      cases fl with
      | ret v =>
        obtain ⟨rfl, x, H', I', rx, ys, hS, hk⟩ := y
        obtain ⟨z, its, cc, r3, ln3, e3⟩ := I'.lstM hS
        refine wpAny_bind (wpAny_load e3 (wpAny_pure ?_))
        have e : its.toArray.toList = its := by simp
        rw [e]
        exact hR _ _ _ _ I' r3 hk
      | next => exact y
      | brk => exact y
      | cont => exact y
  refine wpAny_mono key (fun fn s' x => ?_) fun e s' x => x
  cases fn with
  | done q0 => exact fin _ _ x
  | again c₁ => exact ⟨x.1, codeAny_mono x.2 fun q s₂ y => fin _ _ y⟩
theorem star_ownL {pins : List (Addr × Obj)} {σ : L2.St} {H : Hp} {s : Shared} {a dx : Addr} {fs : List (Str × V)} {k : List V → Hp → Prop} {R : List Value → Shared → Prop}
    (F : ∀ base, FnOk X.prog X.w X.K X.mg base CX n f fd ps (sp base.objs.size)) (hb : L2.Binds X.K fd ps []) (hx : Passes CX X E) (hc : X.calm = true) (hr : Room (n + 1) X.A) (hrm : Room (m + 2) X.A)
    (hs : PySem.W.findIn X.K (.ref C) "__iter__" = some (some (.ref f))) (hf : PySem.W.isFn X.K (.ref f) = true) (G : FnOk X.prog X.w X.K X.mg X.base CX0 m g gd qs sl) (hgb : L2.Binds X.K gd qs []) (n1 : PySem.W.findIn X.K (.ref C) "__len__" = some (some (.ref g))) (n2 : PySem.W.isFn X.K (.ref g) = true)
    (I : L2.Inv X pins σ H s) (ha : H a = some (.ins C dx fs)) (hq : ∀ S, H S = none → ∀ m, sp m [.ref a] (upd H S (.lst [])) (ListToldL C a S sl E (StarQ S k) m) E)
    (hR : ∀ us s' ys H', L2.Inv X pins σ H' s' → Vals ys us → k ys H' → R us s') : PySem.W.StarOf (model X.prog X.w) X.A X.xe (.ref a) R s := by
  unfold PySem.W.StarOf
  refine iter_own I ha hs hf ⟨rfl, ?_⟩
  unfold collect
  refine wpAny_bind (wpAny_runValue (codeAny_builtin PySem.F.entry_proto_collect ?_))
  rw [Around.under_plainId PySem.F.plain_proto_collect _]
  show wpAny _ X.A.in1 (newList [] >>= fun l => again (.builtin "list.__iadd__" ⟨[l, .ref a], []⟩)) _ _ s
  have fr : H s.heap.objs.size = none := I.hok.fresh (Nat.le_refl _)
  have I1 : L2.Inv X pins σ (upd H s.heap.objs.size (.lst [])) { s with heap := s.heap.push { cls := .type "list", data := .seq #[] } } := I.lnew (its := []) (t' := s.toks) .nil (Nat.zero_le _)
  refine wpAny_bind (wpAny_newObj_type ?_)
  refine wpAny_pure ⟨plainId_quiet PySem.F.plain_list_iadd _, codeAny_builtin PySem.F.entry_list_iadd ?_⟩
  rw [Around.under_plainId PySem.F.plain_list_iadd _]
  show wpAny _ X.A.in1 (Builtin.List.listExtendWith (.ref s.heap.objs.size) (.ref a) (.ref s.heap.objs.size)) _ _ _
  have key := list_fillLR (A := X.A) (rt := .ref s.heap.objs.size) (Rs := wants (fun r s2 => r = .ref s.heap.objs.size ∧ EP X pins σ (StarQ s.heap.objs.size k) (.ref s.heap.objs.size) s2) X.xe) F hb hx (Room.in1 hr) (Room.in1 hrm) rfl (I.ok.hd hc) hs hf G hgb n1 n2 I1 (by rw [upd_ne (ne_of_none ha fr)]; exact ha) upd_same (hq _ fr)
    (fun H' s' I' q => ⟨rfl, .ref _, H', I', rfl, q⟩) fun e s' he => he
  have fin : ∀ (q : Result) (s2 : Shared), wants (fun r s2 => r = .ref s.heap.objs.size ∧ EP X pins σ (StarQ s.heap.objs.size k) (.ref s.heap.objs.size) s2) X.xe q s2 →
      match q with
      | .ok (.ret v) => wpAny (model X.prog X.w) X.A (match v with
        | Value.ref a => do
          let __do_lift ← load a
          match __do_lift.data with
            | Data.seq xs epoch => pure xs.toList
            | x => unsupported "internal:collect"
        | x => unsupported "internal:collect") R X.xe s2
      | .ok _ => False
      | .error e => X.xe e s2 := fun q s2 y => by
    cases q with
    | error e => exact y
    | ok fl =>
      cases fl with
      | ret v =>
        obtain ⟨rfl, x, H', I', rx, ys, hS, hk⟩ := y
        obtain ⟨z, its, cc, r3, ln3, e3⟩ := I'.lstM hS
        refine wpAny_bind (wpAny_load e3 (wpAny_pure ?_))
        have e : its.toArray.toList = its := by simp
        rw [e]
        exact hR _ _ _ _ I' r3 hk
      | next => exact y
      | brk => exact y
      | cont => exact y
  refine wpAny_mono key (fun fn s' x => ?_) fun e s' x => x
  cases fn with
  | done q0 => exact fin _ _ x
  | again c₁ => exact ⟨x.1, codeAny_mono x.2 fun q s₂ y => fin _ _ y⟩
end
section
variable {X : Cx} {CX : CXT} {C f g : Addr} {fd gd : FuncData} {ps qs : List Str} {n m : Nat} {spi : Nat → Sp} {sl : Sp} {E : XK} {e : Expr} {es : List Expr} {te : TE} {t : TA} {p : Pos}
def tStarI (C : Addr) (spi : Nat → Sp) (E : XK) (te : TE) (t : TA) : TA := fun σ H Q => te σ H fun x H1 => ∃ a dx fs, x = V.ref a ∧ H1 a = some (.ins C dx fs) ∧ ∀ S, H1 S = none → ∀ m, spi m [.ref a] (upd H1 S (.lst [])) (ListTold C a S (StarQ S fun ys H2 => t σ H2 fun zs H3 => Q (ys ++ zs) H3) m) E
def tStarIL (C : Addr) (spi : Nat → Sp) (sl : Sp) (E : XK) (te : TE) (t : TA) : TA := fun σ H Q => te σ H fun x H1 => ∃ a dx fs, x = V.ref a ∧ H1 a = some (.ins C dx fs) ∧ ∀ S, H1 S = none → ∀ m, spi m [.ref a] (upd H1 S (.lst [])) (ListToldL C a S sl E (StarQ S fun ys H2 => t σ H2 fun zs H3 => Q (ys ++ zs) H3) m) E
theorem pa_starI (F : ∀ base, FnOk X.prog X.w X.K X.mg base CX n f fd ps (spi base.objs.size)) (hb : L2.Binds X.K fd ps []) (hx : Passes CX X E) (hc : X.calm = true) (hr : Room (n + 1) X.A)
    (hs0 : PySem.W.findIn X.K (.ref C) "__iter__" = some (some (.ref f))) (hf : PySem.W.isFn X.K (.ref f) = true) (n1 : PySem.W.findIn X.K (.ref C) "__len__" = some none) (n2 : PySem.W.findIn X.K (.ref C) "__length_hint__" = some none)
    (he : PE X e te) (hr2 : PA X es t) (hs : starEach (.Starred e p :: es) X.env = (true, eval e X.env) :: starEach es X.env := by rfl) : PA X (.Starred e p :: es) (tStarI C spi E te t) := by
  refine ⟨fun pos pins s σ H Q I h => ?_⟩
  refine PySem.W.items_star (thn (he.run pins s σ H _ I h) fun v s1 ⟨y, H1, I1, ry, a, dx, fs, ey, ha, q⟩ => ?_) hs
  subst ey
  obtain rfl : v = Value.ref a := ry
  refine star_own F hb hx hc hr hs0 hf n1 n2 I1 ha q fun us s2 ys H2 I2 rv hk => ?_
  exact thn (hr2.run pos pins s2 σ H2 _ I2 hk) fun ws s3 ⟨vs, H3, I3, r3, q3⟩ => ⟨_ ++ vs, H3, I3, rv.append r3, q3⟩
theorem pa_starIL (F : ∀ base, FnOk X.prog X.w X.K X.mg base CX n f fd ps (spi base.objs.size)) (hb : L2.Binds X.K fd ps []) (hx : Passes CX X E) (hc : X.calm = true) (hr : Room (n + 1) X.A) (hrm : Room (m + 2) X.A)
    (hs0 : PySem.W.findIn X.K (.ref C) "__iter__" = some (some (.ref f))) (hf : PySem.W.isFn X.K (.ref f) = true) (G : FnOk X.prog X.w X.K X.mg X.base CX0 m g gd qs sl) (hgb : L2.Binds X.K gd qs []) (n1 : PySem.W.findIn X.K (.ref C) "__len__" = some (some (.ref g))) (n2 : PySem.W.isFn X.K (.ref g) = true)
    (he : PE X e te) (hr2 : PA X es t) (hs : starEach (.Starred e p :: es) X.env = (true, eval e X.env) :: starEach es X.env := by rfl) : PA X (.Starred e p :: es) (tStarIL C spi sl E te t) := by
  refine ⟨fun pos pins s σ H Q I h => ?_⟩
  refine PySem.W.items_star (thn (he.run pins s σ H _ I h) fun v s1 ⟨y, H1, I1, ry, a, dx, fs, ey, ha, q⟩ => ?_) hs
  subst ey
  obtain rfl : v = Value.ref a := ry
  refine star_ownL F hb hx hc hr hrm hs0 hf G hgb n1 n2 I1 ha q fun us s2 ys H2 I2 rv hk => ?_
  exact thn (hr2.run pos pins s2 σ H2 _ I2 hk) fun ws s3 ⟨vs, H3, I3, r3, q3⟩ => ⟨_ ++ vs, H3, I3, rv.append r3, q3⟩
end
end Own
set_option Elab.async false
set_option linter.all false
set_option maxRecDepth 100000
set_option maxHeartbeats 2000000
/-! sorted of a list of one thing, or of none; == of a list and a new empty one -/
namespace Own
open PySem PySem.Spec PyProof.Rows L2 PySem.Calls
section
variable {X : Cx}
def rSorted1 (K : PySem.W.Frag) : List V → Hp → VK → Prop := fun vs H Q => ∃ (a : Addr) (xs : List V), vs = [V.ref a] ∧ SqL K H a xs ∧ xs.length ≤ 1 ∧ ∀ p, H p = none → Q (.ref p) (upd H p (.lst xs))
theorem perm_one {α : Type} {xs ys : List α} (h : xs.Perm ys) (l : ys.length ≤ 1) : xs = ys := by
  match ys, l with
  | [], _ => exact h.eq_nil
  | [y], _ => exact List.perm_singleton.mp h
  | _ :: _ :: _, l => exact absurd l (by simp)
theorem cr_sorted1 : CallR X (.builtin "sorted") (rSorted1 X.K) := by
  intro pins s σ H vs us Q I r h
  obtain ⟨a, xs, rfl, hs, h1, q⟩ := h
  obtain ⟨its, rv, hl, hz⟩ := I.list hs
  obtain ⟨u, rfl, ru⟩ := vals1 r
  obtain rfl : u = Value.ref a := ru
  refine SrtO.sorted_ord (ltv := fun _ _ => false) ⟨fun _ _ _ => rfl, fun _ _ _ _ _ => rfl⟩ hl.isList (by rw [← rv.length]; exact hz) (fun h2 => absurd h2 (by rw [← rv.length]; omega)) fun out hs hb => ?_
  have e : out = its := perm_one hb.perm (by rw [← rv.length]; exact h1)
  subst e
  obtain ⟨n, hn⟩ := sortedAll_at s.heap out out.toArray
  refine ⟨.ref _, upd H _ (.lst xs), I.laid (t' := s.toks) (fun b o e => sortedAll_old e) (Nat.le_succ _) ⟨hz, out, n, rv, hn⟩, rfl, q _ (I.hok.fresh (Nat.le_succ _))⟩
theorem sorted1Of {K : PySem.W.Frag} (h : X.K = K) : CallR X (.builtin "sorted") (rSorted1 K) := h ▸ cr_sorted1
end
end Own
set_option Elab.async false
set_option linter.all false
set_option maxRecDepth 100000
set_option maxHeartbeats 4000000
namespace K5
open PySem L2
structure Ad where
  a_is_integer : Addr
  d_is_integer : FuncData
  a_is_list : Addr
  d_is_list : FuncData
  a_is_name : Addr
  d_is_name : FuncData
  a_is_dish : Addr
  d_is_dish : FuncData
  a_is_index : Addr
  d_is_index : FuncData
  a_alike : Addr
  d_alike : FuncData
  a_copied : Addr
  d_copied : FuncData
  a_BadOrder___init__ : Addr
  d_BadOrder___init__ : FuncData
  a_NoRow___init__ : Addr
  d_NoRow___init__ : FuncData
  a_is_bounds : Addr
  d_is_bounds : FuncData
  a_is_moment : Addr
  d_is_moment : FuncData
  a_is_wish : Addr
  d_is_wish : FuncData
  a_is_station : Addr
  d_is_station : FuncData
  a_as_moment : Addr
  d_as_moment : FuncData
  a_as_wish : Addr
  d_as_wish : FuncData
  a_check_same : Addr
  d_check_same : FuncData
  a_check_orders : Addr
  d_check_orders : FuncData
  a_is_order : Addr
  d_is_order : FuncData
  a_way_up : Addr
  d_way_up : FuncData
  a_way_of : Addr
  d_way_of : FuncData
  a_dish_of : Addr
  d_dish_of : FuncData
  a_spread : Addr
  d_spread : FuncData
  a_most_longer : Addr
  d_most_longer : FuncData
  a_Hanging___init__ : Addr
  d_Hanging___init__ : FuncData
  a_Hanging_rows : Addr
  d_Hanging_rows : FuncData
  a_Hanging___iter__ : Addr
  d_Hanging___iter__ : FuncData
  a_check_rows : Addr
  d_check_rows : FuncData
  a_is_hook : Addr
  d_is_hook : FuncData
  a_check_rounds : Addr
  d_check_rounds : FuncData
  a_round_from : Addr
  d_round_from : FuncData
  a_Book___init__ : Addr
  d_Book___init__ : FuncData
  a_Book_of : Addr
  d_Book_of : FuncData
  a_check_entries : Addr
  d_check_entries : FuncData
  a_is_entry : Addr
  d_is_entry : FuncData
  a_is_wait : Addr
  d_is_wait : FuncData
  a_check_waits : Addr
  d_check_waits : FuncData
  a_sum_ahead : Addr
  d_sum_ahead : FuncData
  a_raised : Addr
  d_raised : FuncData
  a_ring_behind : Addr
  d_ring_behind : FuncData
  a_bounded : Addr
  d_bounded : FuncData
  a_wish_as_row : Addr
  d_wish_as_row : FuncData
  a_order_as_wish : Addr
  d_order_as_wish : FuncData
  a_found_row : Addr
  d_found_row : FuncData
  a_found_wish : Addr
  d_found_wish : FuncData
  a_is_between : Addr
  d_is_between : FuncData
  a_goes_round : Addr
  d_goes_round : FuncData
  a_all_rows : Addr
  d_all_rows : FuncData
  a_earliest : Addr
  d_earliest : FuncData
  a_latest : Addr
  d_latest : FuncData
  a_ring : Addr
  d_ring : FuncData
  a_least_sums : Addr
  d_least_sums : FuncData
  a_is_ring : Addr
  d_is_ring : FuncData
  a_row_of : Addr
  d_row_of : FuncData
  a_Meal___init__ : Addr
  d_Meal___init__ : FuncData
  a_Meal_dishes : Addr
  d_Meal_dishes : FuncData
  a_Meal_wishes : Addr
  d_Meal_wishes : FuncData
  a_Meal___len__ : Addr
  d_Meal___len__ : FuncData
  a_Meal___iter__ : Addr
  d_Meal___iter__ : FuncData
  a_check_dishes : Addr
  d_check_dishes : FuncData
  a_check_wishes : Addr
  d_check_wishes : FuncData
  a_check_stations : Addr
  d_check_stations : FuncData
  a__law_fresh : Addr
  d__law_fresh : FuncData
  a__law_take : Addr
  d__law_take : FuncData
  a__law_one : Addr
  d__law_one : FuncData
  a__law_mix : Addr
  d__law_mix : FuncData
  a__law_some : Addr
  d__law_some : FuncData
  a__law_same : Addr
  d__law_same : FuncData
  a__law_loose : Addr
  d__law_loose : FuncData
  a__law_names : Addr
  d__law_names : FuncData
  a__law_dishes : Addr
  d__law_dishes : FuncData
  a__law_hung : Addr
  d__law_hung : FuncData
  a__law_tried : Addr
  d__law_tried : FuncData
  a_law : Addr
  d_law : FuncData
  a_BadOrder : Addr
  a_NoRow : Addr
  a_Hanging : Addr
  a_Book : Addr
  a_Meal : Addr
  a_EDGES : Addr
  a_W0 : Addr
  a_S0 : Addr
  a_R2 : Addr
  a_R0 : Addr
  a_R1 : Addr
structure Txt (K : PySem.W.Frag) (mg : Str → Option Value) (A : Ad) : Prop where
  f_is_integer : Fun K "is_integer" "is_integer" s_is_integer A.a_is_integer A.d_is_integer
  g_is_integer : mg "is_integer" = some (.ref A.a_is_integer)
  b_is_integer : Binds K A.d_is_integer P_is_integer []
  f_is_list : Fun K "is_list" "is_list" s_is_list A.a_is_list A.d_is_list
  g_is_list : mg "is_list" = some (.ref A.a_is_list)
  b_is_list : Binds K A.d_is_list P_is_list []
  f_is_name : Fun K "is_name" "is_name" s_is_name A.a_is_name A.d_is_name
  g_is_name : mg "is_name" = some (.ref A.a_is_name)
  b_is_name : Binds K A.d_is_name P_is_name []
  f_is_dish : Fun K "is_dish" "is_dish" s_is_dish A.a_is_dish A.d_is_dish
  g_is_dish : mg "is_dish" = some (.ref A.a_is_dish)
  b_is_dish : Binds K A.d_is_dish P_is_dish []
  f_is_index : Fun K "is_index" "is_index" s_is_index A.a_is_index A.d_is_index
  g_is_index : mg "is_index" = some (.ref A.a_is_index)
  b_is_index : Binds K A.d_is_index P_is_index []
  f_alike : Fun K "alike" "alike" s_alike A.a_alike A.d_alike
  g_alike : mg "alike" = some (.ref A.a_alike)
  b_alike : Binds K A.d_alike P_alike []
  f_copied : Fun K "copied" "copied" s_copied A.a_copied A.d_copied
  g_copied : mg "copied" = some (.ref A.a_copied)
  b_copied : Binds K A.d_copied P_copied []
  f_BadOrder___init__ : Fun K "__init__" "BadOrder.__init__" s_BadOrder___init__ A.a_BadOrder___init__ A.d_BadOrder___init__
  b_BadOrder___init__ : Binds K A.d_BadOrder___init__ P_BadOrder___init__ []
  f_NoRow___init__ : Fun K "__init__" "NoRow.__init__" s_NoRow___init__ A.a_NoRow___init__ A.d_NoRow___init__
  b_NoRow___init__ : Binds K A.d_NoRow___init__ P_NoRow___init__ []
  f_is_bounds : Fun K "is_bounds" "is_bounds" s_is_bounds A.a_is_bounds A.d_is_bounds
  g_is_bounds : mg "is_bounds" = some (.ref A.a_is_bounds)
  b_is_bounds : Binds K A.d_is_bounds P_is_bounds []
  f_is_moment : Fun K "is_moment" "is_moment" s_is_moment A.a_is_moment A.d_is_moment
  g_is_moment : mg "is_moment" = some (.ref A.a_is_moment)
  b_is_moment : Binds K A.d_is_moment P_is_moment []
  f_is_wish : Fun K "is_wish" "is_wish" s_is_wish A.a_is_wish A.d_is_wish
  g_is_wish : mg "is_wish" = some (.ref A.a_is_wish)
  b_is_wish : Binds K A.d_is_wish P_is_wish []
  f_is_station : Fun K "is_station" "is_station" s_is_station A.a_is_station A.d_is_station
  g_is_station : mg "is_station" = some (.ref A.a_is_station)
  b_is_station : Binds K A.d_is_station P_is_station []
  f_as_moment : Fun K "as_moment" "as_moment" s_as_moment A.a_as_moment A.d_as_moment
  g_as_moment : mg "as_moment" = some (.ref A.a_as_moment)
  b_as_moment : Binds K A.d_as_moment P_as_moment []
  f_as_wish : Fun K "as_wish" "as_wish" s_as_wish A.a_as_wish A.d_as_wish
  g_as_wish : mg "as_wish" = some (.ref A.a_as_wish)
  b_as_wish : Binds K A.d_as_wish P_as_wish []
  f_check_same : Fun K "check_same" "check_same" s_check_same A.a_check_same A.d_check_same
  g_check_same : mg "check_same" = some (.ref A.a_check_same)
  b_check_same : Binds K A.d_check_same P_check_same []
  f_check_orders : Fun K "check_orders" "check_orders" s_check_orders A.a_check_orders A.d_check_orders
  g_check_orders : mg "check_orders" = some (.ref A.a_check_orders)
  b_check_orders : Binds K A.d_check_orders P_check_orders []
  f_is_order : Fun K "is_order" "is_order" s_is_order A.a_is_order A.d_is_order
  g_is_order : mg "is_order" = some (.ref A.a_is_order)
  b_is_order : Binds K A.d_is_order P_is_order []
  f_way_up : Fun K "way_up" "way_up" s_way_up A.a_way_up A.d_way_up
  g_way_up : mg "way_up" = some (.ref A.a_way_up)
  b_way_up : Binds K A.d_way_up P_way_up []
  f_way_of : Fun K "way_of" "way_of" s_way_of A.a_way_of A.d_way_of
  g_way_of : mg "way_of" = some (.ref A.a_way_of)
  b_way_of : Binds K A.d_way_of P_way_of []
  f_dish_of : Fun K "dish_of" "dish_of" s_dish_of A.a_dish_of A.d_dish_of
  g_dish_of : mg "dish_of" = some (.ref A.a_dish_of)
  b_dish_of : Binds K A.d_dish_of P_dish_of []
  f_spread : Fun K "spread" "spread" s_spread A.a_spread A.d_spread
  g_spread : mg "spread" = some (.ref A.a_spread)
  b_spread : Binds K A.d_spread P_spread []
  f_most_longer : Fun K "most_longer" "most_longer" s_most_longer A.a_most_longer A.d_most_longer
  g_most_longer : mg "most_longer" = some (.ref A.a_most_longer)
  b_most_longer : Binds K A.d_most_longer P_most_longer []
  f_Hanging___init__ : Fun K "__init__" "Hanging.__init__" s_Hanging___init__ A.a_Hanging___init__ A.d_Hanging___init__
  b_Hanging___init__ : Binds K A.d_Hanging___init__ P_Hanging___init__ []
  f_Hanging_rows : Fun K "rows" "Hanging.rows" s_Hanging_rows A.a_Hanging_rows A.d_Hanging_rows
  b_Hanging_rows : Binds K A.d_Hanging_rows P_Hanging_rows []
  f_Hanging___iter__ : Fun K "__iter__" "Hanging.__iter__" s_Hanging___iter__ A.a_Hanging___iter__ A.d_Hanging___iter__
  b_Hanging___iter__ : Binds K A.d_Hanging___iter__ P_Hanging___iter__ []
  f_check_rows : Fun K "check_rows" "check_rows" s_check_rows A.a_check_rows A.d_check_rows
  g_check_rows : mg "check_rows" = some (.ref A.a_check_rows)
  b_check_rows : Binds K A.d_check_rows P_check_rows []
  f_is_hook : Fun K "is_hook" "is_hook" s_is_hook A.a_is_hook A.d_is_hook
  g_is_hook : mg "is_hook" = some (.ref A.a_is_hook)
  b_is_hook : Binds K A.d_is_hook P_is_hook []
  f_check_rounds : Fun K "check_rounds" "check_rounds" s_check_rounds A.a_check_rounds A.d_check_rounds
  g_check_rounds : mg "check_rounds" = some (.ref A.a_check_rounds)
  b_check_rounds : Binds K A.d_check_rounds P_check_rounds []
  f_round_from : Fun K "round_from" "round_from" s_round_from A.a_round_from A.d_round_from
  g_round_from : mg "round_from" = some (.ref A.a_round_from)
  b_round_from : Binds K A.d_round_from P_round_from []
  f_Book___init__ : Fun K "__init__" "Book.__init__" s_Book___init__ A.a_Book___init__ A.d_Book___init__
  b_Book___init__ : Binds K A.d_Book___init__ P_Book___init__ []
  f_Book_of : Fun K "of" "Book.of" s_Book_of A.a_Book_of A.d_Book_of
  b_Book_of : Binds K A.d_Book_of P_Book_of []
  f_check_entries : Fun K "check_entries" "check_entries" s_check_entries A.a_check_entries A.d_check_entries
  g_check_entries : mg "check_entries" = some (.ref A.a_check_entries)
  b_check_entries : Binds K A.d_check_entries P_check_entries []
  f_is_entry : Fun K "is_entry" "is_entry" s_is_entry A.a_is_entry A.d_is_entry
  g_is_entry : mg "is_entry" = some (.ref A.a_is_entry)
  b_is_entry : Binds K A.d_is_entry P_is_entry []
  f_is_wait : Fun K "is_wait" "is_wait" s_is_wait A.a_is_wait A.d_is_wait
  g_is_wait : mg "is_wait" = some (.ref A.a_is_wait)
  b_is_wait : Binds K A.d_is_wait P_is_wait []
  f_check_waits : Fun K "check_waits" "check_waits" s_check_waits A.a_check_waits A.d_check_waits
  g_check_waits : mg "check_waits" = some (.ref A.a_check_waits)
  b_check_waits : Binds K A.d_check_waits P_check_waits []
  f_sum_ahead : Fun K "sum_ahead" "sum_ahead" s_sum_ahead A.a_sum_ahead A.d_sum_ahead
  g_sum_ahead : mg "sum_ahead" = some (.ref A.a_sum_ahead)
  b_sum_ahead : Binds K A.d_sum_ahead P_sum_ahead []
  f_raised : Fun K "raised" "raised" s_raised A.a_raised A.d_raised
  g_raised : mg "raised" = some (.ref A.a_raised)
  b_raised : Binds K A.d_raised P_raised []
  f_ring_behind : Fun K "ring_behind" "ring_behind" s_ring_behind A.a_ring_behind A.d_ring_behind
  g_ring_behind : mg "ring_behind" = some (.ref A.a_ring_behind)
  b_ring_behind : Binds K A.d_ring_behind P_ring_behind []
  f_bounded : Fun K "bounded" "bounded" s_bounded A.a_bounded A.d_bounded
  g_bounded : mg "bounded" = some (.ref A.a_bounded)
  b_bounded : Binds K A.d_bounded P_bounded []
  f_wish_as_row : Fun K "wish_as_row" "wish_as_row" s_wish_as_row A.a_wish_as_row A.d_wish_as_row
  g_wish_as_row : mg "wish_as_row" = some (.ref A.a_wish_as_row)
  b_wish_as_row : Binds K A.d_wish_as_row P_wish_as_row []
  f_order_as_wish : Fun K "order_as_wish" "order_as_wish" s_order_as_wish A.a_order_as_wish A.d_order_as_wish
  g_order_as_wish : mg "order_as_wish" = some (.ref A.a_order_as_wish)
  b_order_as_wish : Binds K A.d_order_as_wish P_order_as_wish []
  f_found_row : Fun K "found_row" "found_row" s_found_row A.a_found_row A.d_found_row
  g_found_row : mg "found_row" = some (.ref A.a_found_row)
  b_found_row : Binds K A.d_found_row P_found_row []
  f_found_wish : Fun K "found_wish" "found_wish" s_found_wish A.a_found_wish A.d_found_wish
  g_found_wish : mg "found_wish" = some (.ref A.a_found_wish)
  b_found_wish : Binds K A.d_found_wish P_found_wish []
  f_is_between : Fun K "is_between" "is_between" s_is_between A.a_is_between A.d_is_between
  g_is_between : mg "is_between" = some (.ref A.a_is_between)
  b_is_between : Binds K A.d_is_between P_is_between []
  f_goes_round : Fun K "goes_round" "goes_round" s_goes_round A.a_goes_round A.d_goes_round
  g_goes_round : mg "goes_round" = some (.ref A.a_goes_round)
  b_goes_round : Binds K A.d_goes_round P_goes_round []
  f_all_rows : Fun K "all_rows" "all_rows" s_all_rows A.a_all_rows A.d_all_rows
  g_all_rows : mg "all_rows" = some (.ref A.a_all_rows)
  b_all_rows : Binds K A.d_all_rows P_all_rows []
  f_earliest : FunD K "earliest" "earliest" (defArgs s_earliest) (defBody s_earliest) (defScope s_earliest) [.ref A.a_R1] [] A.a_earliest A.d_earliest
  g_earliest : mg "earliest" = some (.ref A.a_earliest)
  f_latest : FunD K "latest" "latest" (defArgs s_latest) (defBody s_latest) (defScope s_latest) [.ref A.a_R2] [] A.a_latest A.d_latest
  g_latest : mg "latest" = some (.ref A.a_latest)
  f_ring : FunD K "ring" "ring" (defArgs s_ring) (defBody s_ring) (defScope s_ring) [.ref A.a_R0] [] A.a_ring A.d_ring
  g_ring : mg "ring" = some (.ref A.a_ring)
  f_least_sums : Fun K "least_sums" "least_sums" s_least_sums A.a_least_sums A.d_least_sums
  g_least_sums : mg "least_sums" = some (.ref A.a_least_sums)
  b_least_sums : Binds K A.d_least_sums P_least_sums []
  f_is_ring : Fun K "is_ring" "is_ring" s_is_ring A.a_is_ring A.d_is_ring
  g_is_ring : mg "is_ring" = some (.ref A.a_is_ring)
  b_is_ring : Binds K A.d_is_ring P_is_ring []
  f_row_of : Fun K "row_of" "row_of" s_row_of A.a_row_of A.d_row_of
  g_row_of : mg "row_of" = some (.ref A.a_row_of)
  b_row_of : Binds K A.d_row_of P_row_of []
  f_Meal___init__ : FunD K "__init__" "Meal.__init__" (defArgs s_Meal___init__) (defBody s_Meal___init__) (defScope s_Meal___init__) [.ref A.a_W0, .ref A.a_S0] [] A.a_Meal___init__ A.d_Meal___init__
  f_Meal_dishes : Fun K "dishes" "Meal.dishes" s_Meal_dishes A.a_Meal_dishes A.d_Meal_dishes
  b_Meal_dishes : Binds K A.d_Meal_dishes P_Meal_dishes []
  f_Meal_wishes : Fun K "wishes" "Meal.wishes" s_Meal_wishes A.a_Meal_wishes A.d_Meal_wishes
  b_Meal_wishes : Binds K A.d_Meal_wishes P_Meal_wishes []
  f_Meal___len__ : Fun K "__len__" "Meal.__len__" s_Meal___len__ A.a_Meal___len__ A.d_Meal___len__
  b_Meal___len__ : Binds K A.d_Meal___len__ P_Meal___len__ []
  f_Meal___iter__ : Fun K "__iter__" "Meal.__iter__" s_Meal___iter__ A.a_Meal___iter__ A.d_Meal___iter__
  b_Meal___iter__ : Binds K A.d_Meal___iter__ P_Meal___iter__ []
  f_check_dishes : Fun K "check_dishes" "check_dishes" s_check_dishes A.a_check_dishes A.d_check_dishes
  g_check_dishes : mg "check_dishes" = some (.ref A.a_check_dishes)
  b_check_dishes : Binds K A.d_check_dishes P_check_dishes []
  f_check_wishes : Fun K "check_wishes" "check_wishes" s_check_wishes A.a_check_wishes A.d_check_wishes
  g_check_wishes : mg "check_wishes" = some (.ref A.a_check_wishes)
  b_check_wishes : Binds K A.d_check_wishes P_check_wishes []
  f_check_stations : Fun K "check_stations" "check_stations" s_check_stations A.a_check_stations A.d_check_stations
  g_check_stations : mg "check_stations" = some (.ref A.a_check_stations)
  b_check_stations : Binds K A.d_check_stations P_check_stations []
  f__law_fresh : Fun K "_law_fresh" "_law_fresh" s__law_fresh A.a__law_fresh A.d__law_fresh
  g__law_fresh : mg "_law_fresh" = some (.ref A.a__law_fresh)
  b__law_fresh : Binds K A.d__law_fresh P__law_fresh []
  f__law_take : Fun K "_law_take" "_law_take" s__law_take A.a__law_take A.d__law_take
  g__law_take : mg "_law_take" = some (.ref A.a__law_take)
  b__law_take : Binds K A.d__law_take P__law_take []
  f__law_one : Fun K "_law_one" "_law_one" s__law_one A.a__law_one A.d__law_one
  g__law_one : mg "_law_one" = some (.ref A.a__law_one)
  b__law_one : Binds K A.d__law_one P__law_one []
  f__law_mix : Fun K "_law_mix" "_law_mix" s__law_mix A.a__law_mix A.d__law_mix
  g__law_mix : mg "_law_mix" = some (.ref A.a__law_mix)
  b__law_mix : Binds K A.d__law_mix P__law_mix []
  f__law_some : Fun K "_law_some" "_law_some" s__law_some A.a__law_some A.d__law_some
  g__law_some : mg "_law_some" = some (.ref A.a__law_some)
  b__law_some : Binds K A.d__law_some P__law_some []
  f__law_same : Fun K "_law_same" "_law_same" s__law_same A.a__law_same A.d__law_same
  g__law_same : mg "_law_same" = some (.ref A.a__law_same)
  b__law_same : Binds K A.d__law_same P__law_same []
  f__law_loose : Fun K "_law_loose" "_law_loose" s__law_loose A.a__law_loose A.d__law_loose
  g__law_loose : mg "_law_loose" = some (.ref A.a__law_loose)
  b__law_loose : Binds K A.d__law_loose P__law_loose []
  f__law_names : Fun K "_law_names" "_law_names" s__law_names A.a__law_names A.d__law_names
  g__law_names : mg "_law_names" = some (.ref A.a__law_names)
  b__law_names : Binds K A.d__law_names P__law_names []
  f__law_dishes : Fun K "_law_dishes" "_law_dishes" s__law_dishes A.a__law_dishes A.d__law_dishes
  g__law_dishes : mg "_law_dishes" = some (.ref A.a__law_dishes)
  b__law_dishes : Binds K A.d__law_dishes P__law_dishes []
  f__law_hung : Fun K "_law_hung" "_law_hung" s__law_hung A.a__law_hung A.d__law_hung
  g__law_hung : mg "_law_hung" = some (.ref A.a__law_hung)
  b__law_hung : Binds K A.d__law_hung P__law_hung []
  f__law_tried : Fun K "_law_tried" "_law_tried" s__law_tried A.a__law_tried A.d__law_tried
  g__law_tried : mg "_law_tried" = some (.ref A.a__law_tried)
  b__law_tried : Binds K A.d__law_tried P__law_tried []
  f_law : Fun K "law" "law" s_law A.a_law A.d_law
  g_law : mg "law" = some (.ref A.a_law)
  b_law : Binds K A.d_law P_law []
  g_CLOCK : ∃ t, mg "CLOCK" = some (.str "clock" t)
  g_LETTERS : ∃ t, mg "LETTERS" = some (.str "abcdefghijklmnopqrstuvwxyz" t)
  g_LONGEST_NAME : ∃ t, mg "LONGEST_NAME" = some (.int 8 t)
  len : mg "len" = none
  abs : mg "abs" = none
  int : mg "int" = none
  list : mg "list" = none
  tuple : mg "tuple" = none
  bool : mg "bool" = none
  str : mg "str" = none
  dict : mg "dict" = none
  isinstance : mg "isinstance" = none
  all : mg "all" = none
  any : mg "any" = none
  zip : mg "zip" = none
  enumerate : mg "enumerate" = none
  range : mg "range" = none
  sorted : mg "sorted" = none
  sum : mg "sum" = none
  set : mg "set" = none
  iter : mg "iter" = none
  bD_latest : ∃ ds, Vals [.ref A.a_R2] ds ∧ Binds K A.d_latest P_latest ds
  bM1 : ∃ ds, Vals [.ref A.a_W0, .ref A.a_S0] ds ∧ Binds K A.d_Meal___init__ P_Meal___init__ ds
  b_earliest : Binds K A.d_earliest P_earliest []
  b_latest : Binds K A.d_latest P_latest []
  b_ring : Binds K A.d_ring P_ring []
  cl : Cls K A.a_Hanging
  cl_B : Cls K A.a_Book
  cl_M : Cls K A.a_Meal
  e0 : SqT K (fun _ => none) A.a_S0 []
  e0W : SqT K (fun _ => none) A.a_W0 []
  eBo : PySem.W.exmOne K (.ref A.a_BadOrder) (.ref A.a_BadOrder) = some true
  eNB : PySem.W.exmOne K (.ref A.a_NoRow) (.ref A.a_BadOrder) = some false
  eNr : PySem.W.exmOne K (.ref A.a_NoRow) (.ref A.a_NoRow) = some true
  g_BadOrder : mg "BadOrder" = some (.ref A.a_BadOrder)
  g_Book : mg "Book" = some (.ref A.a_Book)
  g_EDGES : mg "EDGES" = some (.ref A.a_EDGES)
  g_Hanging : mg "Hanging" = some (.ref A.a_Hanging)
  g_Meal : mg "Meal" = some (.ref A.a_Meal)
  g_NoRow : mg "NoRow" = some (.ref A.a_NoRow)
  iBo : PySem.W.findIn K (.ref A.a_BadOrder) "__init__" = some (some (.ref A.a_BadOrder___init__))
  iNr : PySem.W.findIn K (.ref A.a_NoRow) "__init__" = some (some (.ref A.a_NoRow___init__))
  m_dishes : Meth K A.a_Meal "dishes" A.a_Meal_dishes
  m_iterH : PySem.W.findIn K (.ref A.a_Hanging) "__iter__" = some (some (.ref A.a_Hanging___iter__)) ∧ PySem.W.isFn K (.ref A.a_Hanging___iter__) = true
  m_iterM : PySem.W.findIn K (.ref A.a_Meal) "__iter__" = some (some (.ref A.a_Meal___iter__)) ∧ PySem.W.isFn K (.ref A.a_Meal___iter__) = true
  m_lenM : PySem.W.findIn K (.ref A.a_Meal) "__len__" = some (some (.ref A.a_Meal___len__)) ∧ PySem.W.isFn K (.ref A.a_Meal___len__) = true
  m_rows : Meth K A.a_Hanging "rows" A.a_Hanging_rows
  m_wishes : Meth K A.a_Meal "wishes" A.a_Meal_wishes
  mkB : Mk K A.a_Book A.a_Book___init__
  mkH : Mk K A.a_Hanging A.a_Hanging___init__
  mkM : Mk K A.a_Meal A.a_Meal___init__
  nB : NoAttr K A.a_Meal "bounds"
  nBH : NoAttr K A.a_Book "hooks"
  nBW : NoAttr K A.a_Book "waits"
  nBo : PySem.W.findIn K (.ref A.a_BadOrder) "index" = some none
  nH : NoAttr K A.a_Hanging "hooks"
  nHintH : PySem.W.findIn K (.ref A.a_Hanging) "__length_hint__" = some none
  nLenH : PySem.W.findIn K (.ref A.a_Hanging) "__len__" = some none
  nNr : PySem.W.findIn K (.ref A.a_NoRow) "row" = some none
  nP : NoAttr K A.a_Meal "places"
  nW : NoAttr K A.a_Meal "wished"
  stO : Own.StaM K A.a_Book "of" A.a_Book_of
  tBo : PySem.W.typeIn K (.ref A.a_BadOrder___init__) = some (.type "function")
  tNr : PySem.W.typeIn K (.ref A.a_NoRow___init__) = some (.type "function")
  t_EDGES : SqT K (fun _ => none) A.a_EDGES [.str "start", .str "done"]
  xBo : OexC K A.a_BadOrder
  xNr : OexC K A.a_NoRow
  xfBo : XfC K A.a_BadOrder
end K5
set_option Elab.async false
set_option linter.all false
set_option maxRecDepth 100000
set_option maxHeartbeats 4000000
namespace K5
open PySem L2
local macro_rules | `(tactic| walk_at "rd1") => `(tactic| first
  | refine ⟨_, _, rfl, rfl, ?_⟩
  | refine ⟨_, _, _, _, rfl, rfl, SqL.of (by assumption), rfl, ?_⟩
  | refine ⟨_, _, _, _, rfl, rfl, (by assumption), rfl, ?_⟩
  | refine .inl ⟨_, rfl, ?_⟩
  | refine ⟨_, rfl, ?_⟩
  | refine ⟨(by unfold CMul; omega), ?_⟩
  | refine ⟨(by unfold CPow; omega), ?_⟩
  | refine ⟨(by (try dsimp only); omega), ?_⟩
  | refine ⟨(by unfold CDiv; omega), ?_⟩
  | fail "rd1")
local macro_rules | `(tactic| walk_at "rd") => `(tactic| repeat' (walk_at "rd1"))
open PySem L2
section
variable {P : Program} {w : World} {K : PySem.W.Frag} {mg : Str → Option Value} {base : Heap} {A : Ad}
def er (H : Hp) (st : Addr) : Hp := fun b => if b = st then none else H b
theorem er_ne {H : Hp} {st b : Addr} (h : b ≠ st) : er H st b = H b := if_neg h
theorem er_some {H : Hp} {st b : Addr} {o : HO} (h : er H st b = some o) : b ≠ st ∧ H b = some o := by
  by_cases e : b = st
  · rw [e] at h
    rw [show er H st st = none from if_pos rfl] at h
    cases h
  · exact ⟨e, (er_ne e).symm.trans h⟩
theorem er_same (H : Hp) (st : Addr) : Same (er H st) H := fun _ _ h => (er_some h).2
theorem er_upd (H : Hp) (st : Addr) (o : HO) : er (upd H st o) st = er H st := by
  funext b
  by_cases e : b = st
  · rw [e]; exact (if_pos rfl).trans (if_pos rfl).symm
  · rw [er_ne e, er_ne e, upd_ne e]
theorem er_of {H : Hp} {st b : Addr} {o : HO} (h : b ≠ st) (e : H b = some o) : er H st b = some o := (er_ne h).trans e
theorem er_mono {H H' : Hp} {st : Addr} (s : Same H H') : Same (er H st) (er H' st) := fun b o h =>
  er_of (er_some h).1 (s _ _ (er_some h).2)
def five (c : Addr) (i l m n : Int) : HO := .lst [.ref c, .int i, .int l, .int m, .int n]
structure Sta (H : Hp) (st c : Addr) (b : Int) : Prop where
  ex : ∃ (cs : List Int) (i : Nat) (l m n : Int), H st = some (five c (i : Int) l m n) ∧ er H st c = some (.lst (cs.map V.int)) ∧ i ≤ cs.length ∧ 0 ≤ l ∧ 0 ≤ m ∧ m < 2147483647 ∧ 0 ≤ n ∧ n ≤ b ∧ b ≤ 1000000
theorem Sta.same {H H' : Hp} {st c : Addr} {b : Int} (h : Sta H st c b) (s : Same H H') : Sta H' st c b := by
  obtain ⟨cs, i, l, m, n, h1, h2, h3⟩ := h.ex
  exact ⟨cs, i, l, m, n, s _ _ h1, er_mono s _ _ h2, h3⟩
theorem Sta.le {H : Hp} {st c : Addr} {b b' : Int} (h : Sta H st c b) (hb : b ≤ b') (h9 : b' ≤ 1000000) : Sta H st c b' := by
  obtain ⟨cs, i, l, m, n, h1, h2, h3, h4, h5, h6, h7, h8, _⟩ := h.ex
  exact ⟨cs, i, l, m, n, h1, h2, h3, h4, h5, h6, h7, by omega, h9⟩
theorem Sta.ne {H : Hp} {st c p : Addr} {b : Int} (h : Sta H st c b) (hp : H p = none) : p ≠ st := by
  obtain ⟨cs, i, l, m, n, h1, _⟩ := h.ex
  exact fun e => by rw [e, h1] at hp; cases hp
theorem Sta.nec {H : Hp} {st c p : Addr} {b : Int} (h : Sta H st c b) (hp : er H st p = none) : c ≠ p := by
  obtain ⟨cs, i, l, m, n, _, h1, _⟩ := h.ex
  exact ne_of_none h1 hp
theorem Same.new {H : Hp} {p : Addr} {o : HO} (hp : H p = none) : Same H (upd H p o) := fun b u e => by
  rw [upd_ne (ne_of_none e hp)]; exact e
theorem sqUp {K : PySem.W.Frag} {H H' : Hp} {a : Addr} {xs : List V} (h : SqL K H a xs) (s : Same H H') : SqL K H' a xs := s.seq h
theorem sqEr {K : PySem.W.Frag} {H : Hp} {st a : Addr} {xs : List V} (h : SqL K (er H st) a xs) : SqL K H a xs := (er_same H st).seq h
theorem er_updp {H : Hp} {st p : Addr} {o : HO} (hp : p ≠ st) : er (upd H p o) st = upd (er H st) p o := by
  funext b
  by_cases e : b = st
  · rw [e, upd_ne (fun z => hp z.symm)]; exact (if_pos rfl).trans (if_pos rfl).symm
  · by_cases e2 : b = p
    · rw [e2, upd_same, er_ne hp, upd_same]
    · rw [upd_ne e2, er_ne e, er_ne e, upd_ne e2]
theorem er_none {H : Hp} {st p : Addr} (h : H p = none) : er H st p = none := by
  by_cases e : p = st
  · exact if_pos e
  · exact (er_ne e).trans h
/-- what a helper that draws leaves: the state, and all that stood beside it -/
structure Gs (st c : Addr) (H H' : Hp) (b : Int) : Prop where
  sta : Sta H' st c b
  same : Same (er H st) (er H' st)
theorem Gs.trans {st c : Addr} {H H1 H2 : Hp} {b b' : Int} (g : Gs st c H H1 b) (g' : Gs st c H1 H2 b') : Gs st c H H2 b' := ⟨g'.sta, g.same.trans g'.same⟩
theorem Gs.refl {st c : Addr} {H : Hp} {b : Int} (h : Sta H st c b) : Gs st c H H b := ⟨h, Same.refl _⟩
theorem Gs.of_upd {st c : Addr} {H : Hp} {o : HO} {b : Int} (h : Sta (upd H st o) st c b) : Gs st c H (upd H st o) b := ⟨h, by rw [er_upd]; exact Same.refl _⟩
theorem Gs.of_same {st c : Addr} {H H' : Hp} {b : Int} (h : Sta H st c b) (s : Same H H') : Gs st c H H' b := ⟨h.same s, er_mono s⟩
theorem Gs.le {st c : Addr} {H H' : Hp} {b b' : Int} (g : Gs st c H H' b) (hb : b ≤ b') (h9 : b' ≤ 1000000) : Gs st c H H' b' := ⟨g.sta.le hb h9, g.same⟩
/-- a thing of the helper's own changes -/
theorem Gs.set {st c p : Addr} {H H' : Hp} {b : Int} {o : HO} (g : Gs st c H H' b) (hc : er H st c ≠ none) (hp : er H st p = none) (hs : p ≠ st) : Gs st c H (upd H' p o) b := by
  refine ⟨?_, fun b u e => ?_⟩
  · obtain ⟨cs, i, l, m, n, h1, h2, h3⟩ := g.sta.ex
    refine ⟨cs, i, l, m, n, by rw [upd_ne (fun z => hs z.symm)]; exact h1, ?_, h3⟩
    rw [er_updp hs, upd_ne (fun z => hc (by rw [z]; exact hp))]
    exact h2
  · rw [er_updp hs, upd_ne (ne_of_none e hp)]
    exact g.same _ _ e
theorem Gs.new {st c p : Addr} {H H' : Hp} {b : Int} {o : HO} (g : Gs st c H H' b) (hp : H' p = none) : Gs st c H (upd H' p o) b :=
  g.trans (Gs.of_same g.sta (Same.new hp))
theorem Sta.hc {H : Hp} {st c : Addr} {b : Int} (h : Sta H st c b) : er H st c ≠ none := by
  obtain ⟨cs, i, l, m, n, _, h1, _⟩ := h.ex
  rw [h1]
  exact fun z => by cases z
theorem while_ex {c : TT} {tb : TS} {D : Ends} {σ : St} {H : Hp} (W : Nat → St → Hp → Prop) (Ex : St → Hp → Prop) {m : Nat} (h0 : W m σ H)
    (hs : ∀ nx : St → Hp → Prop, (∀ σ H, Ex σ H → nx σ H) → ∀ m σ H, W m σ H → c σ H fun b H1 => if b = true then ∃ N : St → Hp → Prop, (∀ σ' H', N σ' H' → ∃ m', m' < m ∧ W m' σ' H') ∧ tb { D with nx := N, ct := N, bk := nx } σ H1 else nx σ H1)
    (hd : ∀ σ H, Ex σ H → D.nx σ H) : tWhile c tb D σ H := ⟨W, ⟨m, h0⟩, hs D.nx hd⟩
theorem cast_heap {F : Hp → Prop} {a b : Hp} (e : a = b) (h : F b) : F a := e ▸ h
def spTake : Sp := fun vs H Q _ => ∃ (st c : Addr) (many b : Int), vs = [.ref st, .int many] ∧ Sta H st c b ∧ b + 1 ≤ 1000000 ∧ 0 < many ∧ many < 1073741824 ∧
  ∀ (r : Int) (o : HO), 0 ≤ r → r < many → Sta (upd H st o) st c (b + 1) → Q (.int r) (upd H st o)
def spFresh (K : PySem.W.Frag) : Sp := fun vs H Q _ => ∃ (a : Addr) (ns : List Int), vs = [.ref a] ∧ SqL K H a (ns.map V.int) ∧
  ∀ (st c : Addr) (H' : Hp), Same H (er H' st) → Sta H' st c 0 → Q (.ref st) H'
def spOne (K : PySem.W.Frag) : Sp := fun vs H Q _ => ∃ (st c t : Addr) (xs : List V) (b : Int), vs = [.ref st, .ref t] ∧ Sta H st c b ∧ b + 1 ≤ 1000000 ∧ SqL K (er H st) t xs ∧ 0 < xs.length ∧ xs.length < 1073741824 ∧
  ∀ (i : Nat) (v : V) (H' : Hp), xs[i]? = some v → Gs st c H H' (b + 1) → Q v H'
def spMix (K : PySem.W.Frag) : Sp := fun vs H Q _ => ∃ (st c t : Addr) (ss : List Str) (b : Int), vs = [.ref st, .ref t] ∧ Sta H st c b ∧ b + 64 ≤ 1000000 ∧ SqL K (er H st) t (ss.map V.str) ∧ ss.length ≤ 64 ∧ (∀ s ∈ ss, PyData.strOk s = true) ∧
  ∀ (p : Addr) (ys : List Str) (H' : Hp), ys.Perm ss → Gs st c H H' (b + 64) → er H' st p = some (.lst (ys.map V.str)) → er H st p = none → Q (.ref p) H'
theorem ok_take (T : Txt K mg A) : FnOk P w K mg base CX0 1 A.a__law_take A.d__law_take P__law_take spTake := by
  refine T.f__law_take.ok sc__law_take (fun vs H Q E h => ?_) (fun cdv A' outer s H vs Q E hr h => ?_)
  · obtain ⟨st, c, many, b, rfl, _⟩ := h
    rfl
  · obtain ⟨st, c, many, b, rfl, S, hb1, hm0, hm1, k⟩ := h
    obtain ⟨cs, i, l, m, n, h1, h2, h3, h4, h5, h6, h7, h8, h9⟩ := S.ex
    refine ⟨_, (pss_cons (ps_asg (pe_op op_add (pe_ix ix_list (pv 0) pe_int (fun _ _ => rfl)) pe_int) (pg_sub (pv 0) pe_int set_list))
 (pss_cons (ps_while PassesOwn.never (PW.pt (pw_and (pt_cmpR op_eq (pe_ix ix_list (pv 0) pe_int (fun _ _ => rfl)) pe_int (nomark _)) (pw_and1 (pt_cmpR op_lt (pe_ix ix_list (pv 0) pe_int (fun _ _ => rfl)) (pe_callB call_len_seq (by rfl) T.len PySem.boot_len (pa_cons (pe_ix ix_list (pv 0) pe_int (fun _ _ => rfl)) pa_nil)) (nomark _)))))
 (pss_cons (ps_set (i := 2) sc__law_take.nd rfl (Or.inl rfl) (pe_callB call_abs (by rfl) T.abs (by decide +kernel) (pa_cons (pe_ix ix_list (pe_ix ix_list (pv 0) pe_int (fun _ _ => rfl)) (pe_ix ix_list (pv 0) pe_int (fun _ _ => rfl)) (fun _ _ => rfl)) pa_nil)))
 (pss_cons (ps_asg (pe_op op_add (pe_ix ix_list (pv 0) pe_int (fun _ _ => rfl)) pe_int) (pg_sub (pv 0) pe_int set_list))
 (pss_one (ps_if (pt_cmpR op_ge (pv 2) (pe_op op_pow pe_int pe_int) (nomark _))
 (pss_one (ps_asg (pv 2) (pg_sub (pv 0) pe_int set_list)))
 (pss_one (ps_asg (pe_op op_mod (pe_callTy call_int1 (by rfl) T.int (by decide +kernel) (pa_cons (pe_op op_add (pe_op op_add (pe_op op_mul (pe_ix ix_list (pv 0) pe_int (fun _ _ => rfl)) pe_int) (pv 2)) pe_int) pa_nil)) pe_int) (pg_sub (pv 0) pe_int set_list))))))))
 (pss_cons (ps_if (pt_cmpR op_gt (pe_ix ix_list (pv 0) pe_int (fun _ _ => rfl)) pe_int (nomark _))
 (pss_cons (ps_set (i := 3) sc__law_take.nd rfl (Or.inl rfl) (pe_op op_mod (pe_callTy call_int1 (by rfl) T.int (by decide +kernel) (pa_cons (pe_ix ix_list (pv 0) pe_int (fun _ _ => rfl)) pa_nil)) (pv 1)))
 (pss_cons (ps_asg (pe_op op_fdiv (pe_ix ix_list (pv 0) pe_int (fun _ _ => rfl)) (pv 1)) (pg_sub (pv 0) pe_int set_list))
 (pss_one (ps_ret (pv 3)))))
 pss_nil)
 (pss_cons (ps_set (i := 4) sc__law_take.nd rfl (Or.inl rfl) (pe_op op_mod (pe_callTy call_int1 (by rfl) T.int (by decide +kernel) (pa_cons (pe_op op_pow (pe_op op_add (pe_op op_add (pe_ix ix_list (pv 0) pe_int (fun _ _ => rfl)) (pe_op op_mul pe_int (pe_ix ix_list (pv 0) pe_int (fun _ _ => rfl)))) pe_int) pe_int) pa_nil)) pe_int))
 (pss_cons (ps_set (i := 4) sc__law_take.nd rfl (Or.inl rfl) (pe_op op_mod (pe_callTy call_int1 (by rfl) T.int (by decide +kernel) (pa_cons (pe_op op_pow (pe_op op_add (pv 4) (pe_op op_mul pe_int (pe_ix ix_list (pv 0) pe_int (fun _ _ => rfl)))) pe_int) pa_nil)) pe_int))
 (pss_one (ps_ret (pe_op op_mod (pe_callTy call_int1 (by rfl) T.int (by decide +kernel) (pa_cons (pe_op op_fdiv (pv 4) pe_int) pa_nil)) (pv 1))))))))), ?_⟩
    -- state[4] = state[4] + 1
    refine ⟨_, rfl, _, _, _, _, rfl, rfl, SqL.of h1, rfl, _, _, rfl, rfl, _, rfl, _, _, _, _, rfl, rfl, h1, rfl, ?_⟩
    refine while_ex (fun mm σ' H' => ∃ (i : Nat) (l m : Int) (v : Option V), σ' = [some (.ref st), some (.int many), v, none, none] ∧ H' = upd H st (five c (i : Int) l m (n + 1)) ∧ i ≤ cs.length ∧ 0 ≤ l ∧ 0 ≤ m ∧ m < 2147483647 ∧ mm = cs.length - i)
      (fun σ' H' => ∃ (i : Nat) (l m : Int) (v : Option V), σ' = [some (.ref st), some (.int many), v, none, none] ∧ H' = upd H st (five c (i : Int) l m (n + 1)) ∧ i ≤ cs.length ∧ 0 ≤ l ∧ 0 ≤ m ∧ m < 2147483647)
      ⟨i, l, m, none, rfl, rfl, h3, h4, h5, h6, rfl⟩ (fun nx hnx => ?_) ?_
    rintro mm σ' H' ⟨i, l, m, v, rfl, rfl, h3, h4, h5, h6, rfl⟩
    have hu : upd H st (five c (i : Int) l m (n + 1)) st = some (five c (i : Int) l m (n + 1)) := upd_same
    have hc : SqL K (upd H st (five c (i : Int) l m (n + 1))) c (cs.map V.int) := SqL.of ((er_same _ st) _ _ (by rw [er_upd]; exact h2))
    -- the test
    refine ⟨_, rfl, _, _, _, _, rfl, rfl, SqL.of hu, rfl, rfl, _, rfl, ?_⟩
    refine ite2 (fun hl => ?_) (fun hl => ?_)
    · have el : l = 0 := by
        have q := of_decide_eq_true hl
        cases q
        rfl
      subst el
      refine ⟨_, rfl, _, _, _, _, rfl, rfl, SqL.of hu, rfl, _, rfl, _, _, _, _, rfl, rfl, SqL.of hu, rfl, _, _, rfl, .inl hc, _, _, rfl, rfl, _, rfl, ?_⟩
      refine ite2 (fun hi => ?_) (fun hi => ?_)
      · have hi' : i < cs.length := by
          have q := of_decide_eq_true hi
          rw [List.length_map] at q
          omega
        refine ⟨_, fun _ _ z => z, ?_⟩
        -- cell = abs(state[0][state[1]]); state[1] = state[1] + 1
        refine ⟨_, rfl, _, _, _, _, rfl, rfl, SqL.of hu, rfl, _, rfl, _, _, _, _, rfl, rfl, SqL.of hu, rfl, _, _, _, _, rfl, rfl, hc, atI_nat (by rw [List.getElem?_map, List.getElem?_eq_getElem hi']; rfl), _, rfl, ?_⟩
        refine ⟨_, rfl, _, _, _, _, rfl, rfl, SqL.of hu, rfl, _, _, rfl, rfl, _, rfl, _, _, _, _, rfl, rfl, hu, rfl, ?_⟩
        have e2 : upd (upd H st (five c (i : Int) 0 m (n + 1))) st (five c ((i : Int) + 1) 0 m (n + 1)) = upd H st (five c (((i + 1 : Nat)) : Int) 0 m (n + 1)) := upd_upd
        refine cast_heap e2 ?_
        have hu2 : upd H st (five c (((i + 1 : Nat)) : Int) 0 m (n + 1)) st = some (five c (((i + 1 : Nat)) : Int) 0 m (n + 1)) := upd_same
        generalize hcell : (if cs[i] < 0 then -cs[i] else cs[i]) = cell
        have hc0 : 0 ≤ cell := by
          rw [← hcell]
          split <;> omega
        -- if cell >= 10 ** 18
        refine ⟨_, rfl, _, _, rfl, rfl, ⟨by decide, by decide, by decide⟩, _, _, rfl, rfl, _, rfl, ?_⟩
        refine ite2 (fun hg => ?_) (fun hg => ?_)
        · refine ⟨_, rfl, _, rfl, _, _, _, _, rfl, rfl, hu2, rfl, ?_⟩
          exact ⟨cs.length - (i + 1), by omega, i + 1, cell, m, _, rfl, upd_upd, hi', hc0, h5, h6, rfl⟩
        · have hlt : cell < 10 ^ 18 := by
            refine Int.not_le.mp fun q => hg (decide_eq_true ?_)
            exact q
          refine ⟨_, rfl, _, _, _, _, rfl, rfl, SqL.of hu2, rfl, _, _, rfl, rfl, .inl ⟨by omega, by omega⟩, _, rfl, _, _, rfl, rfl, _, _, rfl, rfl, .inl ⟨_, rfl, _, _, rfl, rfl, (by show (0 : Int) < 2147483647; decide), _, rfl, _, _, _, _, rfl, rfl, hu2, rfl, ?_⟩⟩
          refine ⟨cs.length - (i + 1), by omega, i + 1, 0, (m * 131 + cell + 1) % 2147483647, _, rfl, upd_upd, hi', Int.le_refl _, Int.emod_nonneg _ (by decide), Int.emod_lt_of_pos _ (by decide), rfl⟩
      · exact hnx _ _ ⟨i, 0, m, v, rfl, rfl, h3, h4, h5, h6⟩
    · exact hnx _ _ ⟨i, l, m, v, rfl, rfl, h3, h4, h5, h6⟩
    -- behind the loop
    rintro σ' H' ⟨i, l, m, v, rfl, rfl, h3, h4, h5, h6⟩
    have hu : upd H st (five c (i : Int) l m (n + 1)) st = some (five c (i : Int) l m (n + 1)) := upd_same
    have mk : ∀ (i : Nat) (l m : Int), i ≤ cs.length → 0 ≤ l → 0 ≤ m → m < 2147483647 → Sta (upd H st (five c (i : Int) l m (n + 1))) st c (b + 1) := fun i l m h3 h4 h5 h6 =>
      ⟨cs, i, l, m, n + 1, upd_same, by rw [er_upd]; exact h2, h3, h4, h5, h6, by omega, by omega, hb1⟩
    refine ⟨_, rfl, _, _, _, _, rfl, rfl, SqL.of hu, rfl, _, _, rfl, rfl, _, rfl, ?_⟩
    refine ite2 (fun hl => ?_) (fun hl => ?_)
    · refine ⟨_, rfl, _, _, _, _, rfl, rfl, SqL.of hu, rfl, .inl ⟨_, rfl, _, rfl, _, _, rfl, rfl, hm0, ?_⟩⟩
      refine ⟨_, rfl, _, _, _, _, rfl, rfl, SqL.of hu, rfl, _, rfl, _, _, rfl, rfl, ⟨hm0, by omega⟩, _, rfl, _, _, _, _, rfl, rfl, hu, rfl, ?_⟩
      refine cast_heap (b := upd H st (five c (i : Int) (l / many) m (n + 1))) upd_upd ?_
      refine ⟨_, rfl, ?_⟩
      exact k _ _ (Int.emod_nonneg _ (by omega)) (Int.emod_lt_of_pos _ hm0) (mk i (l / many) m h3 (Int.ediv_nonneg h4 (by omega)) h5 h6)
    · have hp : ∀ x : Int, 0 ≤ x → x < 10000000000 → (0 : Int) ≤ 3 ∧ (3 : Int) ≤ 1000000 ∧ x.natAbs < 2 ^ 64 := fun x a b => ⟨by omega, by omega, by omega⟩
      walk_at "rd"
      exact k _ _ (Int.emod_nonneg _ (by omega)) (Int.emod_lt_of_pos _ hm0) (mk i l m h3 h4 h5 h6)
theorem ok_fresh (T : Txt K mg A) : FnOk P w K mg base CX0 1 A.a__law_fresh A.d__law_fresh P__law_fresh (spFresh K) := by
  refine T.f__law_fresh.ok sc__law_fresh (fun vs H Q E h => ?_) (fun cdv A' outer s H vs Q E hr h => ?_)
  · obtain ⟨a, ns, rfl, _⟩ := h
    rfl
  · obtain ⟨a, ns, rfl, hS, k⟩ := h
    refine ⟨_, (pss_one (ps_ret (pe_lst (pa_cons (pe_callTy call_list_of (by rfl) T.list (by decide +kernel) (pa_cons (pe_slice sl_list (pv 0) po_none (po_some pe_int)) pa_nil)) (pa_cons pe_int (pa_cons pe_int (pa_cons pe_int (pa_cons pe_int pa_nil)))))))), ?_⟩
    refine ⟨_, rfl, _, rfl, _, _, rfl, hS, fun p hp => ⟨_, _, rfl, .inl (SqL.of upd_same), fun c hc => ⟨by show 5 ≤ sizeLine; decide, fun st hst => ?_⟩⟩⟩
    have s1 : Same H (upd (upd H p (.lst (cutV (ns.map V.int) none (some 40)))) c (.lst (cutV (ns.map V.int) none (some 40)))) := (Same.new hp).trans (Same.new hc)
    have hst0 : H st = none := s1.free hst
    have ec : cutV (ns.map V.int) none (some 40) = (ns.take 40).map V.int := by
      unfold cutV
      rw [HT.sIx_none, show ((40 : Int)) = ((40 : Nat) : Int) from rfl, HT.sIx_nat]
      rw [List.drop_zero, Nat.sub_zero, List.map_take, List.length_map]
      by_cases h40 : 40 ≤ ns.length
      · rw [Nat.min_eq_left h40]
      · rw [Nat.min_eq_right (by omega), List.take_of_length_le (by simp), List.take_of_length_le (by simp; omega)]
    have hcs : c ≠ st := fun e => by rw [← e, upd_same] at hst; cases hst
    refine k st c _ (fun b o e => er_of (fun z => by rw [z, hst0] at e; cases e) (by rw [upd_ne (fun z => by rw [z, hst0] at e; cases e)]; exact s1 _ _ e)) ?_
    refine ⟨ns.take 40, 0, 0, 0, 0, upd_same, er_of hcs ?_, Nat.zero_le _, Int.le_refl _, Int.le_refl _, by decide, Int.le_refl _, Int.le_refl _, by decide⟩
    rw [upd_ne hcs, upd_same, ec]
theorem ok_one (T : Txt K mg A) : FnOk P w K mg base CX0 2 A.a__law_one A.d__law_one P__law_one (spOne K) := by
  have G__law_take : FnOk P w K mg base CX0 1 A.a__law_take A.d__law_take P__law_take spTake := ok_take T
  refine T.f__law_one.ok sc__law_one (fun vs H Q E h => ?_) (fun cdv A' outer s H vs Q E hr h => ?_)
  · obtain ⟨st, c, t, xs, b, rfl, _⟩ := h
    rfl
  · obtain ⟨st, c, t, xs, b, rfl, S, hb, hS, h0, h1, k⟩ := h
    refine ⟨_, (pss_one (ps_ret (pe_ix ix_list (pv 1) (pe_call G__law_take (hr.mono (by omega)) (by rfl) T.g__law_take T.f__law_take.kp T.b__law_take .nil pass0 (pa_cons (pv 0) (pa_cons (pe_callB call_len_seq (by rfl) T.len PySem.boot_len (pa_cons (pv 1) pa_nil)) pa_nil))) (fun _ _ => rfl)))), ?_⟩
    refine ⟨_, rfl, _, rfl, _, rfl, _, _, rfl, .inl (sqEr hS), st, c, _, b, rfl, S, hb, by omega, by omega, fun r o hr0 hr1 S' => ?_⟩
    have g := Gs.of_upd S'
    have hi : r.toNat < xs.length := by omega
    refine ⟨_, _, _, _, rfl, rfl, sqEr (sqUp hS g.same), at_of (j := r.toNat) (by omega) (List.getElem?_eq_getElem hi), ?_⟩
    exact k r.toNat _ _ (List.getElem?_eq_getElem hi) g
end
end K5
set_option Elab.async false
set_option linter.all false
set_option maxRecDepth 100000
set_option maxHeartbeats 4000000
namespace K5
open PySem L2
local macro_rules | `(tactic| walk_at "rd1") => `(tactic| first
  | refine ⟨_, _, rfl, rfl, ?_⟩
  | refine ⟨_, _, _, _, rfl, rfl, SqL.of (by assumption), rfl, ?_⟩
  | refine ⟨_, _, _, _, rfl, rfl, (by assumption), rfl, ?_⟩
  | refine .inl ⟨_, rfl, ?_⟩
  | refine ⟨_, rfl, ?_⟩
  | refine ⟨(by unfold CMul; omega), ?_⟩
  | refine ⟨(by unfold CPow; omega), ?_⟩
  | refine ⟨(by (try dsimp only); omega), ?_⟩
  | refine ⟨(by unfold CDiv; omega), ?_⟩
  | fail "rd1")
local macro_rules | `(tactic| walk_at "rd") => `(tactic| repeat' (walk_at "rd1"))
section
variable {P : Program} {w : World} {K : PySem.W.Frag} {mg : Str → Option Value} {base : Heap} {A : Ad}
theorem catTOf {X : Cx} {K : PySem.W.Frag} (h : X.K = K) : OpR X (binaryOp .Add) (rCatT K) := h ▸ op_catT
end
end K5
set_option Elab.async false
set_option linter.all false
set_option maxRecDepth 100000
set_option maxHeartbeats 4000000
namespace K5
open PySem L2
local macro_rules | `(tactic| walk_at "rd1") => `(tactic| first
  | refine ⟨_, _, rfl, rfl, ?_⟩
  | refine ⟨_, _, _, _, rfl, rfl, SqL.of (by assumption), rfl, ?_⟩
  | refine ⟨_, _, _, _, rfl, rfl, (by assumption), rfl, ?_⟩
  | refine .inl ⟨_, rfl, ?_⟩
  | refine ⟨_, rfl, ?_⟩
  | refine ⟨(by unfold CMul; omega), ?_⟩
  | refine ⟨(by unfold CPow; omega), ?_⟩
  | refine ⟨(by (try dsimp only); omega), ?_⟩
  | refine ⟨(by unfold CDiv; omega), ?_⟩
  | fail "rd1")
local macro_rules | `(tactic| walk_at "rd") => `(tactic| repeat' (walk_at "rd1"))
section
variable {P : Program} {w : World} {K : PySem.W.Frag} {mg : Str → Option Value} {base : Heap} {A : Ad}
theorem stUp {H H' : Hp} {a : Addr} {xs : List V} (h : SqT K H a xs) (s : Same H H') : SqT K H' a xs := by
  rcases h with (h | ⟨o, h⟩) | h
  · exact .inl (.inl (s _ _ h))
  · exact .inl (.inr ⟨o, s _ _ h⟩)
  · exact .inr h
theorem map_erase {α β : Type} (g : α → β) :
    ∀ (l : List α) (j : Nat), (l.eraseIdx j).map g = (l.map g).eraseIdx j
  | [], _ => rfl
  | _ :: _, 0 => rfl
  | a :: l, j + 1 => congrArg (g a :: ·) (map_erase g l j)
theorem erase_perm {α : Type} : ∀ {ls : List α} {i : Nat} {y : α}, ls[i]? = some y → (y :: ls.eraseIdx i).Perm ls
  | a :: l, 0, y, h => by
    have e : a = y := Option.some.inj h
    rw [e]
    exact List.Perm.refl _
  | a :: l, i + 1, y, h => (List.Perm.swap a y (l.eraseIdx i)).trans ((erase_perm (ls := l) (i := i) (y := y) h).cons a)
  | [], i, y, h => by simp at h
theorem seqIx {r : Int} {n : Nat} (h0 : 0 ≤ r) (h1 : r < (n : Int)) : seqIndex? r n = some r.toNat := by
  unfold seqIndex?
  have e : ¬ r < 0 := by omega
  simp only [e, if_false]
  have : ((0 : Int) ≤ r && r < (n : Int)) = true := by simp [h0, h1]
  simp [h0, h1]
mutual
theorem dpSame {H H' : Hp} (s : Same H H') : ∀ {v : V} {d : PyData}, Dp K H v d → Dp K H' v d
  | _, _, .non => .non
  | _, _, .bl b => .bl b
  | _, _, .int i => .int i
  | _, _, .str x => .str x
  | _, _, .lst h q => .lst (s.seq h) (dpAllSame s q)
  | _, _, .tup h q => .tup (stUp h s) (dpAllSame s q)
theorem dpAllSame {H H' : Hp} (s : Same H H') : ∀ {vs : List V} {ds : List PyData}, DpAll K H vs ds → DpAll K H' vs ds
  | _, _, .nil => .nil
  | _, _, .cons a b => .cons (dpSame s a) (dpAllSame s b)
end
theorem dpStrs {H : Hp} : ∀ ss : List Str, DpAll K H (ss.map V.str) (ss.map PyData.str)
  | [] => .nil
  | s :: ss => .cons (.str s) (dpStrs ss)
theorem strs_lay : ∀ {ss : List Str}, (∀ s ∈ ss, PyData.strOk s = true) → PyData.canLayAll0 (ss.map PyData.str) = true
  | [], _ => by simp [PyData.canLayAll0]
  | s :: ss, h => by
    simp only [List.map_cons, PyData.canLayAll0, PyData.canLay0, h s (List.mem_cons_self ..), Bool.true_and]
    exact strs_lay fun t ht => h t (List.mem_cons_of_mem _ ht)
theorem strs_depth : ∀ ss : List Str, PyData.depthAll (ss.map PyData.str) = 0
  | [] => by simp [PyData.depthAll]
  | s :: ss => by simp only [List.map_cons, PyData.depthAll, PyData.depth, strs_depth ss]; rfl
theorem strs_shaped {ss : List Str} (h : ∀ s ∈ ss, PyData.strOk s = true) : SeqAt.shaped (.list (ss.map PyData.str)) = true := by
  show (PyData.canLay0 (.list (ss.map PyData.str)) && decide (PyData.depth (.list (ss.map PyData.str)) ≤ 64)) = true
  rw [Bool.and_eq_true]
  refine ⟨by simp only [PyData.canLay0]; exact strs_lay h, decide_eq_true ?_⟩
  simp only [PyData.depth, strs_depth]
  decide
theorem eqv_strs_nil : ∀ ss : List Str, PyData.eqv (.list (ss.map PyData.str)) (.list []) = ss.isEmpty
  | [] => by simp [PyData.eqv, PyData.eqvAll]
  | s :: ss => by simp [PyData.eqv, PyData.eqvAll]
theorem perm_move {α : Type} {fs ls : List α} {i : Nat} {y : α} (h : ls[i]? = some y) : (fs ++ [y] ++ ls.eraseIdx i).Perm (fs ++ ls) := by
  rw [List.append_assoc]
  exact List.Perm.append_left fs (erase_perm h)
theorem ok_mix (T : Txt K mg A) : FnOk P w K mg base CX0 2 A.a__law_mix A.d__law_mix P__law_mix (spMix K) := by
  have G__law_take : FnOk P w K mg base CX0 1 A.a__law_take A.d__law_take P__law_take spTake := ok_take T
  refine T.f__law_mix.ok sc__law_mix (fun vs H Q E h => ?_) (fun cdv A' outer s H vs Q E hr h => ?_)
  · obtain ⟨st, c, t, ss, b, rfl, _⟩ := h
    rfl
  · obtain ⟨st, c, t, ss, b, rfl, S, hb, hS, hl, hok, k⟩ := h
    refine ⟨_, (pss_cons (ps_par (i := 2) (j := 3) (by rfl) sc__law_mix.nd rfl rfl (by decide) rfl rfl (pa_cons (pe_callTy call_list_of (by rfl) T.list (by decide +kernel) (pa_cons (pv 1) pa_nil)) (pa_cons (pe_lst pa_nil) pa_nil)) (by rfl))
 (pss_cons (ps_while PassesOwn.never (pt_cmpR (op_neD hr.units) (pv 2) (pe_lst pa_nil) (nomark _))
 (pss_one (ps_expr (pe_bm PySem.F.plainAttrs_list PySem.F.slot_list_append PySem.F.type_list_append mt_append (pv 3) (pa_cons (pe_bm PySem.F.plainAttrs_list PySem.F.slot_list_pop PySem.F.type_list_pop mt_popAt (pv 2) (pa_cons (pe_call G__law_take (hr.mono (by omega)) (by rfl) T.g__law_take T.f__law_take.kp T.b__law_take .nil pass0 (pa_cons (pv 0) (pa_cons (pe_callB call_len_seq (by rfl) T.len PySem.boot_len (pa_cons (pv 2) pa_nil)) pa_nil))) pa_nil)) pa_nil)))))
 (pss_one (ps_ret (pv 3))))), ?_⟩
    refine ⟨_, rfl, _, _, rfl, .inl (sqEr hS), fun left nl => ⟨Nat.zero_le _, fun fnd nf => ⟨_, _, rfl, ?_⟩⟩⟩
    have nls : left ≠ st := S.ne nl
    have nf0 : H fnd = none := (Same.new nl).free nf
    have nfs : fnd ≠ st := S.ne nf0
    have nlf : left ≠ fnd := ne_of_none upd_same nf
    have el : er H st left = none := er_none nl
    have ef : er H st fnd = none := er_none nf0
    have g0 : Gs st c H (upd (upd H left (.lst (ss.map V.str))) fnd (.lst [])) b := (Gs.refl S).set S.hc el nls |>.set S.hc ef nfs
    refine while_ex (fun mm σ' H' => ∃ (ls fs : List Str), σ' = [some (.ref st), some (.ref t), some (.ref left), some (.ref fnd)] ∧ H' left = some (.lst (ls.map V.str)) ∧ H' fnd = some (.lst (fs.map V.str)) ∧ (fs ++ ls).Perm ss ∧ Gs st c H H' (b + (fs.length : Int)) ∧ mm = ls.length)
      (fun σ' H' => ∃ (fs : List Str), σ' = [some (.ref st), some (.ref t), some (.ref left), some (.ref fnd)] ∧ H' fnd = some (.lst (fs.map V.str)) ∧ fs.Perm ss ∧ Gs st c H H' (b + (fs.length : Int)))
      ⟨ss, [], rfl, by rw [upd_ne nlf, upd_same], by rw [upd_same]; rfl, List.Perm.refl _, by simpa using g0, rfl⟩ (fun nx hnx => ?_) ?_
    · rintro mm σ' H' ⟨ls, fs, rfl, h1, h2, hp, g, rfl⟩
      have hpl : fs.length + ls.length = ss.length := by rw [← List.length_append]; exact hp.length_eq
      have hls : ∀ s ∈ ls, PyData.strOk s = true := fun s hs => hok s (hp.mem_iff.mp (List.mem_append_right _ hs))
      refine ⟨_, rfl, Nat.zero_le _, fun e he => ⟨.list (ls.map PyData.str), .list [], ?_⟩⟩
      have h1' : upd H' e (.lst []) left = some (.lst (ls.map V.str)) := Same.new he _ _ h1
      have h2' : upd H' e (.lst []) fnd = some (.lst (fs.map V.str)) := Same.new he _ _ h2
      have g' : Gs st c H (upd H' e (.lst [])) (b + (fs.length : Int)) := g.new he
      refine ⟨.lst (SqL.of h1') (dpStrs ls), .lst (SqL.of upd_same) .nil, strs_shaped hls, by decide +kernel, _, rfl, ?_⟩
      rw [eqv_strs_nil]
      refine ite2 (fun hne => ?_) (fun hne => ?_)
      · have hpos : 0 < ls.length := by
          cases ls with
          | nil => cases hne
          | cons _ _ => exact Nat.succ_pos _
        refine ⟨_, fun _ _ z => z, ?_⟩
        refine ⟨_, rfl, .inl ⟨rfl, _, SqL.of h2'⟩, _, rfl, .inl ⟨rfl, _, SqL.of h1'⟩, _, rfl, _, rfl, _, _, rfl, .inl (SqL.of h1'), st, c, _, _, rfl, g'.sta, by omega, by rw [List.length_map]; omega, by rw [List.length_map]; omega, fun r o hr0 hr1 S' => ?_⟩
        rw [List.length_map] at hr1
        have g2 : Gs st c H (upd (upd H' e (.lst [])) st o) (b + (fs.length : Int) + 1) := g'.trans (Gs.of_upd S')
        have h1'' : upd (upd H' e (.lst [])) st o left = some (.lst (ls.map V.str)) := by rw [upd_ne nls]; exact h1'
        have h2'' : upd (upd H' e (.lst [])) st o fnd = some (.lst (fs.map V.str)) := by rw [upd_ne nfs]; exact h2'
        have hi : r.toNat < ls.length := by omega
        have hy : ls[r.toNat]? = some ls[r.toNat] := List.getElem?_eq_getElem hi
        refine ⟨_, _, _, r.toNat, _, rfl, rfl, h1'', by omega, by omega, ?_, by rw [List.getElem?_map, hy]; rfl, ?_⟩
        · rw [List.length_map]
          exact seqIx hr0 hr1
        · refine ⟨_, _, _, rfl, rfl, (by rw [upd_ne nlf.symm]; exact h2''), by rw [List.length_map]; exact Nat.lt_of_le_of_lt (show fs.length ≤ 64 by omega) (by decide), ?_⟩
          refine ⟨(ls.eraseIdx r.toNat).length, ?_, ls.eraseIdx r.toNat, fs ++ [ls[r.toNat]], rfl, ?_, ?_, (perm_move hy).trans hp, ?_, rfl⟩
          · rw [List.length_eraseIdx_of_lt hi]; omega
          · rw [upd_ne nlf, upd_same, map_erase]
          · rw [upd_same, List.map_append]; rfl
          · rw [List.length_append]
            refine Gs.le ((g2.set S.hc el nls).set S.hc ef nfs) (by simp; omega) (by simp; omega)
      · have hnil : ls = [] := by
          cases ls with
          | nil => rfl
          | cons _ _ => exact absurd rfl hne
        subst hnil
        exact hnx _ _ ⟨fs, rfl, h2', by rw [List.append_nil] at hp; exact hp, g'⟩
    · rintro σ' H' ⟨fs, rfl, h2, hp, g⟩
      refine ⟨_, rfl, k fnd fs H' hp (g.le (by have := hp.length_eq; omega) hb) (er_of nfs h2) ef⟩
end
end K5
set_option Elab.async false
set_option linter.all false
set_option maxRecDepth 100000
set_option maxHeartbeats 4000000
namespace K5
open PySem L2
local macro_rules | `(tactic| walk_at "rd1") => `(tactic| first
  | refine ⟨_, _, rfl, rfl, ?_⟩
  | refine ⟨_, _, _, _, rfl, rfl, SqL.of (by assumption), rfl, ?_⟩
  | refine ⟨_, _, _, _, rfl, rfl, (by assumption), rfl, ?_⟩
  | refine .inl ⟨_, rfl, ?_⟩
  | refine ⟨_, rfl, ?_⟩
  | refine ⟨(by unfold CMul; omega), ?_⟩
  | refine ⟨(by unfold CPow; omega), ?_⟩
  | refine ⟨(by (try dsimp only); omega), ?_⟩
  | refine ⟨(by unfold CDiv; omega), ?_⟩
  | fail "rd1")
local macro_rules | `(tactic| walk_at "rd") => `(tactic| repeat' (walk_at "rd1"))
section
variable {P : Program} {w : World} {K : PySem.W.Frag} {mg : Str → Option Value} {base : Heap} {A : Ad}
def pool1 : List Str := ["a", "b", "rice", "fish", "start", "done", "wish", "zz"]
def pool2 : List Str := ["station", "clocks", "abcdefgh", "meal", "go", "wait", "cloc", "on"]
def pool : List Str := ["a", "b", "rice", "fish", "start", "done", "wish", "zz", "station", "clocks", "abcdefgh", "meal", "go", "wait", "cloc", "on"]
theorem pool_nodup : pool.Nodup := by decide +kernel
theorem pool_ok : ∀ s ∈ pool, PyData.strOk s = true := by decide +kernel
def spNames (K : PySem.W.Frag) : Sp := fun vs H Q _ => ∃ (st c : Addr) (b : Int) (n : Nat), vs = [.ref st, .int n] ∧ Sta H st c b ∧ b + 64 ≤ 1000000 ∧ n ≤ 16 ∧
  ∀ (p : Addr) (ys : List Str) (H' : Hp), ys.Nodup → (∀ s ∈ ys, s ∈ pool) → ys.length = n → Gs st c H H' (b + 64) → er H' st p = some (.lst (ys.map V.str)) → er H st p = none → Q (.ref p) H'
theorem ok_names (T : Txt K mg A) : FnOk P w K mg base CX0 3 A.a__law_names A.d__law_names P__law_names (spNames K) := by
  have G__law_mix : FnOk P w K mg base CX0 2 A.a__law_mix A.d__law_mix P__law_mix (spMix K) := ok_mix T
  refine T.f__law_names.ok sc__law_names (fun vs H Q E h => ?_) (fun cdv A' outer s H vs Q E hr h => ?_)
  · obtain ⟨st, c, b, n, rfl, _⟩ := h
    rfl
  · obtain ⟨st, c, b, n, rfl, S, hb, hn, k⟩ := h
    refine ⟨_, (pss_cons (ps_set (i := 2) sc__law_names.nd rfl (Or.inl rfl) (pe_lst (pa_cons pe_str (pa_cons pe_str (pa_cons pe_str (pa_cons pe_str (pa_cons pe_str (pa_cons pe_str (pa_cons pe_str (pa_cons pe_str pa_nil))))))))))
 (pss_one (ps_ret (pe_slice sl_list (pe_call G__law_mix (hr.mono (by omega)) (by rfl) T.g__law_mix T.f__law_mix.kp T.b__law_mix .nil pass0 (pa_cons (pv 0) (pa_cons (pe_op op_cat (pv 2) (pe_lst (pa_cons pe_str (pa_cons pe_str (pa_cons pe_str (pa_cons pe_str (pa_cons pe_str (pa_cons pe_str (pa_cons pe_str (pa_cons pe_str pa_nil)))))))))) pa_nil))) po_none (po_some (pv 1)))))), ?_⟩
    refine ⟨by show 8 ≤ sizeLine; decide, fun p hp => ?_⟩
    refine ⟨_, rfl, _, rfl, by show 8 ≤ sizeLine; decide, fun q hq => ?_⟩
    have g1 : Gs st c H (upd (upd H p (.lst (pool1.map V.str))) q (.lst (pool2.map V.str))) b := ((Gs.refl S).new hp).new hq
    have h1 : upd (upd H p (.lst (pool1.map V.str))) q (.lst (pool2.map V.str)) p = some (.lst (pool1.map V.str)) := by
      rw [upd_ne (ne_of_none upd_same hq), upd_same]
    refine ⟨_, _, _, _, rfl, rfl, h1, upd_same, by show 16 ≤ sizeLine; decide, fun t ht => ?_⟩
    have nt := g1.sta.ne ht
    have g0 : Gs st c H (upd (upd (upd H p (.lst (pool1.map V.str))) q (.lst (pool2.map V.str))) t (.lst (pool1.map V.str ++ pool2.map V.str))) b := g1.new ht
    refine ⟨st, c, t, pool, b, rfl, g0.sta, hb, SqL.of (er_of nt upd_same), by decide, pool_ok, fun l ys H' hperm g hl hl0 => ?_⟩
    refine ⟨_, rfl, _, rfl, _, _, rfl, SqL.of ((er_same _ _) _ _ hl), fun d hd => ?_⟩
    have hlen : ys.length = 16 := by rw [hperm.length_eq]; rfl
    have ec : cutV (ys.map V.str) none (some (n : Int)) = (ys.take n).map V.str := by
      unfold cutV
      rw [HT.sIx_none, HT.sIx_nat, List.drop_zero, Nat.sub_zero, List.map_take, List.length_map, hlen, Nat.min_eq_left hn]
    have g3 : Gs st c H (upd H' d (.lst (cutV (ys.map V.str) none (some (n : Int))))) (b + 64) := (g0.trans g).new hd
    have hnd : ys.Nodup := hperm.nodup_iff.mpr pool_nodup
    refine k d (ys.take n) _ (hnd.sublist (List.take_sublist _ _)) (fun s hs => hperm.mem_iff.mp (List.mem_of_mem_take hs)) (by rw [List.length_take]; omega) g3 (er_of (g.sta.ne hd) ?_) ?_
    · rw [upd_same, ec]
    · have e0 := er_none (st := st) hd
      exact ((g0.trans g).same).free e0
end
end K5
set_option Elab.async false
set_option linter.all false
set_option maxRecDepth 100000
set_option maxHeartbeats 4000000
namespace K5
open PySem L2
local macro_rules | `(tactic| walk_at "rd1") => `(tactic| first
  | refine ⟨_, _, rfl, rfl, ?_⟩
  | refine ⟨_, _, _, _, rfl, rfl, SqL.of (by assumption), rfl, ?_⟩
  | refine ⟨_, _, _, _, rfl, rfl, (by assumption), rfl, ?_⟩
  | refine .inl ⟨_, rfl, ?_⟩
  | refine ⟨_, rfl, ?_⟩
  | refine ⟨(by unfold CMul; omega), ?_⟩
  | refine ⟨(by unfold CPow; omega), ?_⟩
  | refine ⟨(by (try dsimp only); omega), ?_⟩
  | refine ⟨(by unfold CDiv; omega), ?_⟩
  | fail "rd1")
local macro_rules | `(tactic| walk_at "rd") => `(tactic| repeat' (walk_at "rd1"))
section
variable {P : Program} {w : World} {K : PySem.W.Frag} {mg : Str → Option Value} {base : Heap} {A : Ad}
theorem tyL {H : Hp} {a : Addr} {xs : List V} (h : SqL K H a xs) : TyX K H (.ref a) (.type "list") := by
  rcases h with (h | ⟨o, h⟩) | ⟨o, _, _, h1, h2, _⟩
  · exact .base (.lst h)
  · exact .base (.frz h)
  · exact .kList h1 h2
theorem tyT {H : Hp} {a : Addr} {xs : List V} (h : SqT K H a xs) : TyX K H (.ref a) (.type "tuple") := by
  rcases h with (h | ⟨o, h⟩) | ⟨o, _, _, h1, h2, _⟩
  · exact .base (.tup h)
  · exact .fTuple h
  · exact .kTuple h1 h2
theorem kit2 {K : PySem.W.Frag} {a b c : String} {r s : Bool} (h : kitB a b = some r) (k : kitB a c = some s) : PySem.W.kitAny K (.type a) [.type b, .type c] = some (r || s) := by
  cases r with
  | true => exact kitAny_cons (kit_ty h) (fun z => nomatch z) (fun _ => rfl)
  | false => 
    refine kitAny_cons (kit_ty h) (fun _ => ?_) (fun z => nomatch z)
    cases s with
    | true => exact kitAny_cons (kit_ty k) (fun z => nomatch z) (fun _ => rfl)
    | false => exact kitAny_cons (kit_ty k) (fun _ => kitAny_nil) (fun z => nomatch z)
theorem kit3 {K : PySem.W.Frag} {a b c d : String} {r s t : Bool} (h : kitB a b = some r) (k : kitB a c = some s) (m : kitB a d = some t) : PySem.W.kitAny K (.type a) [.type b, .type c, .type d] = some (r || (s || t)) := by
  cases r with
  | true => exact kitAny_cons (kit_ty h) (fun z => nomatch z) (fun _ => rfl)
  | false =>
    have e := kit2 (K := K) k m
    rw [Bool.false_or]
    exact kitAny_cons (kit_ty h) (fun _ => e) (fun z => nomatch z)
theorem dpGet {H : Hp} : ∀ {vs : List V} {ds : List PyData} {i : Nat} {v : V}, DpAll K H vs ds → vs[i]? = some v → ∃ d, ds[i]? = some d ∧ Dp K H v d
  | _, _, 0, v, .cons a _, h => ⟨_, rfl, by rw [← Option.some.inj h]; exact a⟩
  | _, _, i + 1, v, .cons _ b, h => dpGet (i := i) b h
  | _, _, i, v, .nil, h => by simp at h
theorem dpLen {H : Hp} : ∀ {vs : List V} {ds : List PyData}, DpAll K H vs ds → vs.length = ds.length
  | _, _, .nil => rfl
  | _, _, .cons _ b => congrArg (· + 1) (dpLen b)
theorem walk_zipT {a b : Addr} {xs ys : List V} {n : Nat} (hn : n = min xs.length ys.length) : Walk (RZ.ItzT K a b) n (fun H => SqT K H a xs ∧ SqT K H b ys) (YPair (fun i => xs[i]?) (fun i => ys[i]?)) := by
  subst hn
  refine ⟨fun i H hi q => ⟨xs, ys, _, _, q.1, q.2, List.getElem?_eq_getElem (by omega), List.getElem?_eq_getElem (by omega)⟩, fun H q => ⟨xs, ys, q.1, q.2, by omega⟩, fun i H v H' hi q y => ?_⟩
  obtain ⟨T, x, z, e1, e2, e3, e4, e5⟩ := y
  exact ⟨T, x, z, e1, e2, e3, e4 _ q.1, e5 _ q.2⟩
mutual
/-- no list in it has more than a thousand things -/
def wid : PyData → Bool
  | .list xs | .tuple xs => decide (xs.length ≤ 1000) && widAll xs
  | _ => true
def widAll : List PyData → Bool
  | [] => true
  | x :: xs => wid x && widAll xs
end
theorem widAll_mem : ∀ {ds : List PyData} {d : PyData}, widAll ds = true → d ∈ ds → wid d = true
  | x :: xs, d, h, m => by
    simp only [widAll, Bool.and_eq_true] at h
    rcases List.mem_cons.mp m with e | m
    · rw [e]; exact h.1
    · exact widAll_mem h.2 m
theorem wid_parts {xs : List PyData} (h : wid (.list xs) = true ∨ wid (.tuple xs) = true) : xs.length ≤ 1000 ∧ widAll xs = true := by
  simp only [wid, Bool.and_eq_true, decide_eq_true_eq, or_self] at h
  exact h
/-- the promise of «same» for data of a depth below n -/
def spSame (K : PySem.W.Frag) (n : Nat) : Sp := fun vs H Q _ => ∃ (x y : V) (d : PyData), vs = [x, y] ∧ Dp K H x d ∧ Dp K H y d ∧ d.depth < n ∧ wid d = true ∧ ∀ H', Same H H' → Q (.bl true) H'
theorem no_fn {f : Addr} {fd : FuncData} {ps : List Str} {k : Nat} {sp : Sp} (h : ∀ vs H Q E, ¬ sp vs H Q E) : FnOk P w K mg base CX0 k f fd ps sp :=
  ⟨fun vs H Q E z => (h vs H Q E z).elim, fun _ _ _ _ _ _ _ _ _ _ _ _ _ z => (h _ _ _ _ z).elim⟩
theorem same_loop {J : It} {N n : Nat} {G : Hp → Prop} {xs ys : List V} {ds : List PyData} {H : Hp} {D : Addr} {x0 y0 : V} {Qd : Hp → Prop} (wk : Walk J N G (YPair (fun i => xs[i]?) (fun i => ys[i]?))) (hx : DpAll K H xs ds) (hy : DpAll K H ys ds)
    (hd : PyData.depthAll ds < n) (hw : widAll ds = true) (hN : N ≤ 1000) (hG : ∀ H', Same H H' → G H') (hD : H D = none) (hq : ∀ H', Same H H' → H' D = some (.lst ((List.replicate N true).map V.bl)) → Qd H') :
    ∃ W : Nat → Nat → Hp → Prop, (∃ m, W 0 m (upd H D (.lst []))) ∧ ∀ i m H, W i m H →
      (J.stop i H ∧ Qd H) ∨ (J.go i H ∧ ∃ Nx : Hp → Prop, (∀ H', Nx H' → ∃ m', m' < m ∧ W (i + 1) m' H') ∧ ∀ x H', J.yld i H x H' →
        gTup K 2 (gCons (gName 2) (gCons (gName 3) gNil)) x (wipe [some x0, some y0, none, none] [2, 3]) H' fun σ2 H2 => wipe σ2 [2, 3] = wipe [some x0, some y0, none, none] [2, 3] ∧ tYes σ2 H2 fun b H3 =>
        if b = true then (tCall (spSame K n) [] E0 (tCons (tVar 2) (tCons (tVar 3) tNil))) σ2 H3 fun y H4 => ∃ acc, H4 D = some (.lst acc) ∧ acc.length < sizeLine ∧ Nx (upd H4 D (.lst (acc ++ [y]))) else Nx H3) := by
  have same_upd : ∀ {H' : Hp} {o : HO}, Same H H' → Same H (upd H' D o) := fun s b u e => by
    rw [upd_ne (ne_of_none e hD)]; exact s _ _ e
  refine lc_it wk (fun i H' => Same H H' ∧ H' D = some (.lst ((List.replicate i true).map V.bl))) ⟨Same.new hD, upd_same⟩ (fun i H' _ p => hG H' p.1) ?_ (fun H' p => hq H' p.1 p.2)
  rintro i v H' H'' hi ⟨s1, hD'⟩ ⟨T, x, y, rfl, hT, rfl, hx', hy'⟩
  obtain ⟨d, hd1, dx⟩ := dpGet hx hx'
  obtain ⟨d', hd2, dy⟩ := dpGet hy hy'
  rw [hd1] at hd2
  cases hd2
  have hdep : d.depth < n := Nat.lt_of_le_of_lt (PyData.depth_le_depthAll ds d (List.mem_of_getElem? hd1)) hd
  have s2 := s1.trans (Same.new (o := .tup [x, y]) hT)
  refine ⟨T, [x, y], rfl, SqT.of upd_same, rfl, _, _, rfl, _, _, rfl, rfl, rfl, ?_⟩
  refine ⟨_, rfl, _, rfl, x, y, d, rfl, dpSame s2 dx, dpSame s2 dy, hdep, widAll_mem hw (List.mem_of_getElem? hd1), fun H3 s3 => ?_⟩
  have hD3 : H3 D = some (.lst ((List.replicate i true).map V.bl)) := s3 _ _ (Same.new hT _ _ hD')
  refine ⟨_, hD3, by rw [List.length_map, List.length_replicate]; exact Nat.lt_of_lt_of_le hi (Nat.le_trans hN (by decide)), same_upd (s2.trans s3), ?_⟩
  rw [upd_same, List.replicate_succ', List.map_append]
  rfl
theorem all_true (n : Nat) : (List.replicate n true).all id = true := by
  induction n with
  | zero => rfl
  | succ n ih => rw [List.replicate_succ, List.all_cons, ih]; rfl
theorem ok_same (T : Txt K mg A) : ∀ n : Nat, FnOk P w K mg base CX0 n A.a__law_same A.d__law_same P__law_same (spSame K n)
  | 0 => no_fn fun vs H Q E ⟨_, _, _, _, _, _, h, _⟩ => absurd h (Nat.not_lt_zero _)
  | n + 1 => by
    have G__law_same : FnOk P w K mg base CX0 n A.a__law_same A.d__law_same P__law_same (spSame K n) := ok_same T n
    refine T.f__law_same.ok sc__law_same (fun vs H Q E h => ?_) (fun cdv A' outer s H vs Q E hr h => ?_)
    · obtain ⟨x, y, d, rfl, _⟩ := h
      rfl
    · obtain ⟨x, y, d, rfl, hx, hy, hd, hw, k⟩ := h
      refine ⟨_, (pss_cons (ps_if (pt_val (pe_callB call_isiT (by rfl) T.isinstance (by decide +kernel) (pa_cons (pv 1) (pa_cons (pe_tup (pa_cons (pe_bltn (v := .ty "list") (u := .type "list") (by rfl) T.list (by decide +kernel) rfl) (pa_cons (pe_bltn (v := .ty "tuple") (u := .type "tuple") (by rfl) T.tuple (by decide +kernel) rfl) pa_nil))) pa_nil))))
 (pss_cons (ps_if (PW.pt (pw_or (pt_cmpR op_ne (pe_callB call_isi (by rfl) T.isinstance (by decide +kernel) (pa_cons (pv 0) (pa_cons (pe_bltn (v := .ty "list") (u := .type "list") (by rfl) T.list (by decide +kernel) rfl) pa_nil))) (pe_callB call_isi (by rfl) T.isinstance (by decide +kernel) (pa_cons (pv 1) (pa_cons (pe_bltn (v := .ty "list") (u := .type "list") (by rfl) T.list (by decide +kernel) rfl) pa_nil))) (nomark _)) (pw_or1 (pt_cmpR op_ne (pe_callB call_isi (by rfl) T.isinstance (by decide +kernel) (pa_cons (pv 0) (pa_cons (pe_bltn (v := .ty "tuple") (u := .type "tuple") (by rfl) T.tuple (by decide +kernel) rfl) pa_nil))) (pe_callB call_isi (by rfl) T.isinstance (by decide +kernel) (pa_cons (pv 1) (pa_cons (pe_bltn (v := .ty "tuple") (u := .type "tuple") (by rfl) T.tuple (by decide +kernel) rfl) pa_nil))) (nomark _)))))
 (pss_one (ps_ret pe_bl))
 pss_nil)
 (pss_one (ps_ret (pe_and (pe_cmpR op_eq (pe_callB call_len_seq (by rfl) T.len PySem.boot_len (pa_cons (pv 0) pa_nil)) (pe_callB call_len_seq (by rfl) T.len PySem.boot_len (pa_cons (pv 1) pa_nil)) (nomark _)) (pe_one (pe_callB (cr_all rfl) (by rfl) T.all (by decide +kernel) (pa_cons (pe_lc (own := [("_law_x", 2), ("_law_y", 3)]) (g := gTup K 2 (gCons (gName 2) (gCons (gName 3) gNil))) (by rfl) sc__law_same.nd (RZ.pi_zipA (by rfl) T.zip (pa_cons (pv 0) (pa_cons (pv 1) pa_nil))) (blkOk_by (N := N__law_same) (sc := defScope s__law_same) (by decide +kernel)) (fun _ _ _ _ _ => (pg_tup rfl (pgs_cons (pg_name (i := 2) sc__law_same.nd rfl (Or.inl rfl)) (pgs_cons (pg_name (i := 3) sc__law_same.nd rfl (Or.inl rfl)) pgs_nil)))) (fun _ _ _ _ _ => pts_nil) (fun _ _ _ _ _ => (pe_call G__law_same (hr.mono (by omega)) (by rfl) T.g__law_same T.f__law_same.kp T.b__law_same .nil pass0 (pa_cons (pv 2) (pa_cons (pv 3) pa_nil))))) pa_nil)))))))
 pss_nil)
 (pss_cons (ps_if (pt_val (pe_callB call_isi (by rfl) T.isinstance (by decide +kernel) (pa_cons (pv 1) (pa_cons (pe_bltn (v := .ty "int") (u := .type "int") (by rfl) T.int (by decide +kernel) rfl) pa_nil))))
 (pss_one (ps_ret (pe_and (pe_callB call_isi (by rfl) T.isinstance (by decide +kernel) (pa_cons (pv 0) (pa_cons (pe_bltn (v := .ty "int") (u := .type "int") (by rfl) T.int (by decide +kernel) rfl) pa_nil))) (pe_and (pe_cmpR op_eq (pe_callB call_isi (by rfl) T.isinstance (by decide +kernel) (pa_cons (pv 0) (pa_cons (pe_bltn (v := .ty "bool") (u := .type "bool") (by rfl) T.bool (by decide +kernel) rfl) pa_nil))) (pe_callB call_isi (by rfl) T.isinstance (by decide +kernel) (pa_cons (pv 1) (pa_cons (pe_bltn (v := .ty "bool") (u := .type "bool") (by rfl) T.bool (by decide +kernel) rfl) pa_nil))) (nomark _)) (pe_one (pe_cmpR op_eq (pv 0) (pv 1) (nomark _)))))))
 pss_nil)
 (pss_one (ps_ret (pe_and (pe_cmpR op_isBl (pe_callB call_isiT (by rfl) T.isinstance (by decide +kernel) (pa_cons (pv 0) (pa_cons (pe_tup (pa_cons (pe_bltn (v := .ty "int") (u := .type "int") (by rfl) T.int (by decide +kernel) rfl) (pa_cons (pe_bltn (v := .ty "list") (u := .type "list") (by rfl) T.list (by decide +kernel) rfl) (pa_cons (pe_bltn (v := .ty "tuple") (u := .type "tuple") (by rfl) T.tuple (by decide +kernel) rfl) pa_nil)))) pa_nil))) pe_bl (nomark _)) (pe_one (pe_cmpR op_eq (pv 0) (pv 1) (nomark _)))))))), ?_⟩
      -- isinstance(due, (list, tuple))
      refine ⟨_, rfl, by show 2 ≤ sizeLine; decide, fun p hp => ?_⟩
      have s1 : Same H (upd H p (.tup [.ty "list", .ty "tuple"])) := Same.new hp
      have hx1 := dpSame s1 hx
      have hy1 := dpSame s1 hy
      cases hx with
      | non =>
        cases hy
        refine ⟨_, p, _, _, _, false, rfl, upd_same, .cons (.ty _) (.cons (.ty _) .nil), .base .non, kit2 (a := "NoneType") (b := "list") (c := "tuple") (r := false) (s := false) (by decide +kernel) (by decide +kernel), _, rfl, iteF ?_⟩
        refine ⟨_, rfl, _, _, .type "NoneType", _, false, rfl, .ty _, .base .non, kit_ty (by decide +kernel), _, rfl, iteF ?_⟩
        refine ⟨_, rfl, by show 3 ≤ sizeLine; decide, fun q hq => ⟨_, q, _, _, _, false, rfl, upd_same, .cons (.ty _) (.cons (.ty _) (.cons (.ty _) .nil)), .base .non, kit3 (a := "NoneType") (b := "int") (c := "list") (d := "tuple") (r := false) (s := false) (t := false) (by decide +kernel) (by decide +kernel) (by decide +kernel), _, _, rfl, rfl, _, rfl, iteT ⟨_, rfl, _, rfl, rfl, ?_⟩⟩⟩
        exact k _ (s1.trans (Same.new hq))
      | str z =>
        cases hy
        refine ⟨_, p, _, _, _, false, rfl, upd_same, .cons (.ty _) (.cons (.ty _) .nil), .base (.str _), kit2 (a := "str") (b := "list") (c := "tuple") (r := false) (s := false) (by decide +kernel) (by decide +kernel), _, rfl, iteF ?_⟩
        refine ⟨_, rfl, _, _, .type "str", _, false, rfl, .ty _, .base (.str _), kit_ty (by decide +kernel), _, rfl, iteF ?_⟩
        refine ⟨_, rfl, by show 3 ≤ sizeLine; decide, fun q hq => ⟨_, q, _, _, _, false, rfl, upd_same, .cons (.ty _) (.cons (.ty _) (.cons (.ty _) .nil)), .base (.str _), kit3 (a := "str") (b := "int") (c := "list") (d := "tuple") (r := false) (s := false) (t := false) (by decide +kernel) (by decide +kernel) (by decide +kernel), _, _, rfl, rfl, _, rfl, iteT ⟨_, rfl, _, rfl, rfl, ?_⟩⟩⟩
        rw [decide_eq_true rfl]
        exact k _ (s1.trans (Same.new hq))
      | int i =>
        cases hy
        refine ⟨_, p, _, _, _, false, rfl, upd_same, .cons (.ty _) (.cons (.ty _) .nil), .base (.int _), kit2 (a := "int") (b := "list") (c := "tuple") (r := false) (s := false) (by decide +kernel) (by decide +kernel), _, rfl, iteF ?_⟩
        refine ⟨_, rfl, _, _, .type "int", _, true, rfl, .ty _, .base (.int _), kit_ty (by decide +kernel), _, rfl, iteT ?_⟩
        refine ⟨_, rfl, _, _, .type "int", _, true, rfl, .ty _, .base (.int _), kit_ty (by decide +kernel), _, rfl, iteT ?_⟩
        refine ⟨_, rfl, _, _, .type "int", _, false, rfl, .ty _, .base (.int _), kit_ty (by decide +kernel), _, rfl, _, _, .type "int", _, false, rfl, .ty _, .base (.int _), kit_ty (by decide +kernel), rfl, _, rfl, iteT ⟨_, rfl, _, rfl, rfl, ?_⟩⟩
        rw [decide_eq_true rfl]
        exact k _ s1
      | bl b =>
        cases hy
        refine ⟨_, p, _, _, _, false, rfl, upd_same, .cons (.ty _) (.cons (.ty _) .nil), .base (.bl _), kit2 (a := "bool") (b := "list") (c := "tuple") (r := false) (s := false) (by decide +kernel) (by decide +kernel), _, rfl, iteF ?_⟩
        refine ⟨_, rfl, _, _, .type "bool", _, true, rfl, .ty _, .base (.bl _), kit_ty (by decide +kernel), _, rfl, iteT ?_⟩
        refine ⟨_, rfl, _, _, .type "bool", _, true, rfl, .ty _, .base (.bl _), kit_ty (by decide +kernel), _, rfl, iteT ?_⟩
        refine ⟨_, rfl, _, _, .type "bool", _, true, rfl, .ty _, .base (.bl _), kit_ty (by decide +kernel), _, rfl, _, _, .type "bool", _, true, rfl, .ty _, .base (.bl _), kit_ty (by decide +kernel), rfl, _, rfl, iteT ⟨_, rfl, _, rfl, rfl, ?_⟩⟩
        rw [decide_eq_true rfl]
        exact k _ s1
      | lst hL hA =>
        cases hy with
        | lst hL2 hA2 =>
          obtain ⟨w1, w2⟩ := wid_parts (.inl hw)
          have l1 := dpLen hA
          have l2 := dpLen hA2
          have t1 := tyL (sqUp hL s1)
          have t2 := tyL (sqUp hL2 s1)
          refine ⟨_, p, _, _, _, true, rfl, upd_same, .cons (.ty _) (.cons (.ty _) .nil), t2, kit2 (a := "list") (b := "list") (c := "tuple") (r := true) (s := false) (by decide +kernel) (by decide +kernel), _, rfl, iteT ?_⟩
          refine ⟨_, rfl, _, _, .type "list", _, true, rfl, .ty _, t1, kit_ty (by decide +kernel), _, rfl, _, _, .type "list", _, true, rfl, .ty _, t2, kit_ty (by decide +kernel), rfl, _, rfl, iteF ?_⟩
          refine ⟨_, rfl, _, _, .type "list", _, false, rfl, .ty _, t1, kit_ty (by decide +kernel), _, rfl, _, _, .type "list", _, false, rfl, .ty _, t2, kit_ty (by decide +kernel), rfl, _, rfl, iteF ?_⟩
          refine ⟨_, rfl, _, _, rfl, .inl (sqUp hL s1), _, rfl, _, _, rfl, .inl (sqUp hL2 s1), rfl, true, ?_, iteT ?_⟩
          · rw [decide_eq_true (by rw [l1, l2])]
          · refine ⟨_, rfl, _, rfl, _, _, _, _, rfl, .inl ⟨sqUp hL s1, sqUp hL2 s1, fun D hD => same_loop (walk_zip rfl) (dpAllSame s1 hA) (dpAllSame s1 hA2) (by simp only [PyData.depth] at hd; omega) w2 (by omega) (fun H' s' => ⟨sqUp hL (s1.trans s'), sqUp hL2 (s1.trans s')⟩) hD (fun H' s' hD' => ?_)⟩⟩
            refine ⟨D, _, rfl, SqL.of hD', ?_⟩
            rw [all_true]
            exact k _ (s1.trans s')
      | tup hL hA =>
        cases hy with
        | tup hL2 hA2 =>
          obtain ⟨w1, w2⟩ := wid_parts (.inr hw)
          have l1 := dpLen hA
          have l2 := dpLen hA2
          have t1 := tyT (stUp hL s1)
          have t2 := tyT (stUp hL2 s1)
          refine ⟨_, p, _, _, _, true, rfl, upd_same, .cons (.ty _) (.cons (.ty _) .nil), t2, kit2 (a := "tuple") (b := "list") (c := "tuple") (r := false) (s := true) (by decide +kernel) (by decide +kernel), _, rfl, iteT ?_⟩
          refine ⟨_, rfl, _, _, .type "tuple", _, false, rfl, .ty _, t1, kit_ty (by decide +kernel), _, rfl, _, _, .type "tuple", _, false, rfl, .ty _, t2, kit_ty (by decide +kernel), rfl, _, rfl, iteF ?_⟩
          refine ⟨_, rfl, _, _, .type "tuple", _, true, rfl, .ty _, t1, kit_ty (by decide +kernel), _, rfl, _, _, .type "tuple", _, true, rfl, .ty _, t2, kit_ty (by decide +kernel), rfl, _, rfl, iteF ?_⟩
          refine ⟨_, rfl, _, _, rfl, .inr (stUp hL s1), _, rfl, _, _, rfl, .inr (stUp hL2 s1), rfl, true, ?_, iteT ?_⟩
          · rw [decide_eq_true (by rw [l1, l2])]
          · refine ⟨_, rfl, _, rfl, _, _, _, _, rfl, .inr ⟨stUp hL s1, stUp hL2 s1, fun D hD => same_loop (walk_zipT rfl) (dpAllSame s1 hA) (dpAllSame s1 hA2) (by simp only [PyData.depth] at hd; omega) w2 (by omega) (fun H' s' => ⟨stUp hL (s1.trans s'), stUp hL2 (s1.trans s')⟩) hD (fun H' s' hD' => ?_)⟩⟩
            refine ⟨D, _, rfl, SqL.of hD', ?_⟩
            rw [all_true]
            exact k _ (s1.trans s')
end
end K5
set_option Elab.async false
set_option linter.all false
set_option maxRecDepth 100000
set_option maxHeartbeats 4000000
namespace K5
open PySem L2
local macro_rules | `(tactic| walk_at "rd1") => `(tactic| first
  | refine ⟨_, _, rfl, rfl, ?_⟩
  | refine ⟨_, _, _, _, rfl, rfl, SqL.of (by assumption), rfl, ?_⟩
  | refine ⟨_, _, _, _, rfl, rfl, (by assumption), rfl, ?_⟩
  | refine .inl ⟨_, rfl, ?_⟩
  | refine ⟨_, rfl, ?_⟩
  | refine ⟨(by unfold CMul; omega), ?_⟩
  | refine ⟨(by unfold CPow; omega), ?_⟩
  | refine ⟨(by (try dsimp only); omega), ?_⟩
  | refine ⟨(by unfold CDiv; omega), ?_⟩
  | fail "rd1")
local macro_rules | `(tactic| walk_at "rd") => `(tactic| repeat' (walk_at "rd1"))
section
variable {P : Program} {w : World} {K : PySem.W.Frag} {mg : Str → Option Value} {base : Heap} {A : Ad}
def slt (x y : Str) : Prop := x.cps.toList < y.cps.toList
instance (x y : Str) : Decidable (slt x y) := inferInstanceAs (Decidable (x.cps.toList < y.cps.toList))
def sle (x y : Str) : Prop := ¬ slt y x
instance (x y : Str) : Decidable (sle x y) := inferInstanceAs (Decidable (¬ slt y x))
theorem sle_trans {x y z : Str} (a : sle x y) (b : sle y z) : sle x z :=
  fun h => (List.not_lt.mpr (List.le_trans (List.not_lt.mp a) (List.not_lt.mp b))) h
def rk (t : Str) (acc : List Str) : Nat := (acc.filter fun x => decide (sle x t)).length
theorem str_at {ns : List Str} {i : Nat} {x : V} (h : (ns.map V.str)[i]? = some x) : ∃ hi : i < ns.length, x = V.str ns[i] := by
  have hi : i < ns.length := by
    have := (List.getElem?_eq_some_iff.mp h).1
    rwa [List.length_map] at this
  refine ⟨hi, ?_⟩
  rw [List.getElem?_map, List.getElem?_eq_getElem hi] at h
  exact (Option.some.inj h).symm
end
end K5
set_option Elab.async false
set_option linter.all false
set_option maxRecDepth 100000
set_option maxHeartbeats 4000000
namespace K5
open PySem L2
local macro_rules | `(tactic| walk_at "rd1") => `(tactic| first
  | refine ⟨_, _, rfl, rfl, ?_⟩
  | refine ⟨_, _, _, _, rfl, rfl, SqL.of (by assumption), rfl, ?_⟩
  | refine ⟨_, _, _, _, rfl, rfl, (by assumption), rfl, ?_⟩
  | refine .inl ⟨_, rfl, ?_⟩
  | refine ⟨_, rfl, ?_⟩
  | refine ⟨(by unfold CMul; omega), ?_⟩
  | refine ⟨(by unfold CPow; omega), ?_⟩
  | refine ⟨(by (try dsimp only); omega), ?_⟩
  | refine ⟨(by unfold CDiv; omega), ?_⟩
  | fail "rd1")
local macro_rules | `(tactic| walk_at "rd") => `(tactic| repeat' (walk_at "rd1"))
section
variable {P : Program} {w : World} {K : PySem.W.Frag} {mg : Str → Option Value} {base : Heap} {A : Ad}
theorem put_new : ∀ (acc : List (Key × V)) (k : Key) (v : V), k ∉ acc.map (·.1) → putK acc k v = acc ++ [(k, v)] := fun acc k v h => by
  unfold putK
  have e : (acc.any fun kv => decide (kv.1 = k)) = false := by
    rw [List.any_eq_false]
    intro p hp q
    exact h (List.mem_map.mpr ⟨p, hp, of_decide_eq_true q⟩)
  rw [e]
  rfl
/-- what is no tuple -/
def NoTup (u : HO) : Prop := (∀ zs, u ≠ .tup zs) ∧ ∀ o zs, u ≠ .frz o (.tup zs)
theorem tupEr {H : Hp} {D a : Addr} {u : HO} {xs : List V} (hD : H D = some u) (hu : NoTup u) (h : SqT K H a xs) : SqT K (er H D) a xs := by
  rcases h with (h | ⟨o, h⟩) | h
  · exact .inl (.inl (er_of (fun e => by rw [e, hD] at h; exact hu.1 _ (Option.some.inj h)) h))
  · exact .inl (.inr ⟨o, er_of (fun e => by rw [e, hD] at h; exact hu.2 _ _ (Option.some.inj h)) h⟩)
  · exact .inr h
theorem tupSet {E : Hp} {p a : Addr} {u o : HO} {xs : List V} (hp : E p = some u) (hu : NoTup u) (h : SqT K E a xs) : SqT K (upd E p o) a xs :=
  stUp (tupEr hp hu h) fun b w e => by rw [upd_ne (er_some e).1]; exact (er_some e).2
theorem noTup_dK (kvs : List (Key × V)) : NoTup (.dK kvs) := ⟨fun _ z => (nomatch z), fun _ _ z => (nomatch z)⟩
theorem not_in_take {ys : List Str} (h : ys.Nodup) {i : Nat} (hi : i < ys.length) : ys[i] ∉ ys.take i := by
  have e : ys.take (i + 1) = ys.take i ++ [ys[i]] := by rw [List.take_succ, List.getElem?_eq_getElem hi]; rfl
  have n : (ys.take i ++ [ys[i]]).Nodup := by rw [← e]; exact h.sublist (List.take_sublist _ _)
  rw [List.nodup_append] at n
  exact fun m => n.2.2 _ m _ (List.mem_singleton.mpr rfl) rfl
/-- dishes with bounds, as a dict that stands in E -/
structure DishD (K : PySem.W.Frag) (E : Hp) (p : Addr) (ks : List Str) (kvs : List (Key × V)) (w : Int) : Prop where
  at_ : E p = some (.dK kvs)
  keys : kvs.map (·.1) = ks.map Sum.inr
  vals : ∀ (i : Nat) (k : Key) (v : V), kvs[i]? = some (k, v) → ∃ (b : Addr) (l m : Int), v = .ref b ∧ SqT K E b [.int l, .int m] ∧ 1 ≤ l ∧ l ≤ m ∧ m ≤ 100000 ∧ l ≤ 6 ∧ m < l + w
def spDishes (K : PySem.W.Frag) : Sp := fun vs H Q _ => ∃ (st c t : Addr) (ns : List Str) (b wide : Int), vs = [.ref st, .ref t, .int wide] ∧ Sta H st c b ∧ b + 200 ≤ 1000000 ∧ SqL K (er H st) t (ns.map V.str) ∧ ns.length ≤ 64 ∧ ns.Nodup ∧ (∀ s ∈ ns, PyData.strOk s = true) ∧ 0 < wide ∧ wide ≤ 10000 ∧
  ∀ (p : Addr) (ks : List Str) (kvs : List (Key × V)) (H' : Hp), ks.Perm ns → Gs st c H H' (b + 200) → DishD K (er H' st) p ks kvs wide → er H st p = none → Q (.ref p) H'
theorem ok_dishes (T : Txt K mg A) : FnOk P w K mg base CX0 3 A.a__law_dishes A.d__law_dishes P__law_dishes (spDishes K) := by
  have G__law_take : FnOk P w K mg base CX0 1 A.a__law_take A.d__law_take P__law_take spTake := ok_take T
  have G__law_mix : FnOk P w K mg base CX0 2 A.a__law_mix A.d__law_mix P__law_mix (spMix K) := ok_mix T
  refine T.f__law_dishes.ok sc__law_dishes (fun vs H Q E h => ?_) (fun cdv A' outer s H vs Q E hr h => ?_)
  · obtain ⟨st, c, t, ns, b, wide, rfl, _⟩ := h
    rfl
  · obtain ⟨st, c, t, ns, b, wide, rfl, S, hb, hS, hl, hnd, hok, hw0, hw1, k⟩ := h
    refine ⟨_, (pss_cons (ps_set (i := 3) sc__law_dishes.nd rfl (Or.inl rfl) pe_dnewK)
 (pss_cons (ps_for PassesOwn.never rfl (pi_list (pe_call G__law_mix (hr.mono (by omega)) (by rfl) T.g__law_mix T.f__law_mix.kp T.b__law_mix .nil pass0 (pa_cons (pv 0) (pa_cons (pv 1) pa_nil)))) (pg_name (i := 4) sc__law_dishes.nd rfl (Or.inl rfl))
 (pss_cons (ps_set (i := 5) sc__law_dishes.nd rfl (Or.inl rfl) (pe_op op_add pe_int (pe_call G__law_take (hr.mono (by omega)) (by rfl) T.g__law_take T.f__law_take.kp T.b__law_take .nil pass0 (pa_cons (pv 0) (pa_cons pe_int pa_nil)))))
 (pss_one (ps_dput (hu_of hr) (pv 3) (pv 4) (pe_tup (pa_cons (pv 5) (pa_cons (pe_op op_add (pv 5) (pe_call G__law_take (hr.mono (by omega)) (by rfl) T.g__law_take T.f__law_take.kp T.b__law_take .nil pass0 (pa_cons (pv 0) (pa_cons (pv 2) pa_nil)))) pa_nil))) rfl))))
 (pss_one (ps_ret (pv 3))))), ?_⟩
    intro p hp
    have mp := S.ne hp
    have ep := er_none (st := st) hp
    have g0 := (Gs.refl S).new hp (o := .dK [])
    refine ⟨_, rfl, _, rfl, st, c, t, ns, b, rfl, g0.sta, by omega, sqUp hS g0.same, hl, hok, fun q ys H1 hperm g1 hq hq0 => ?_⟩
    have yN : ys.Nodup := hperm.nodup_iff.mpr hnd
    have yl : ys.length ≤ 64 := by rw [hperm.length_eq]; exact hl
    have hpH1 : H1 p = some (.dK []) := (er_same _ _) _ _ (g1.same _ _ (er_of mp upd_same))
    have g1 := g0.trans g1
    have npq : p ≠ q := ne_of hpH1 ((er_same _ _) _ _ hq) (fun z => nomatch z)
    refine ⟨q, rfl, ⟨_, SqL.of ((er_same _ _) _ _ hq)⟩, for_it (walk_list (K := K) (a := q)) (fun i σ' H' => ∃ x y kvs, σ' = [some (.ref st), some (.ref t), some (.int wide), some (.ref p), x, y] ∧ Gs st c H H' (b + 64 + 2 * (i : Int)) ∧ er H' st q = some (.lst (ys.map V.str)) ∧ DishD K (er H' st) p (ys.take i) kvs wide)
      ⟨_, _, [], rfl, by simpa using g1, hq, ⟨er_of mp hpH1, rfl, fun _ _ _ h => by simp at h⟩⟩ (fun i σ' H' _ z => SqL.of ((er_same _ _) _ _ z.choose_spec.choose_spec.choose_spec.2.2.1)) ?_ ?_⟩
    · rintro i v σ' H' H'' hi ⟨x, y, kvs, rfl, g, hq', hD⟩ ⟨rfl, hx⟩
      obtain ⟨hi, rfl⟩ := str_at hx
      refine ⟨_, rfl, st, c, 6, _, rfl, g.sta, by omega, by omega, by omega, fun r o hr0 hr1 S1 => ⟨_, _, rfl, rfl, ?_⟩⟩
      have g1 := g.trans (Gs.of_upd S1)
      have e1 : er (upd H'' st o) st = er H'' st := er_upd ..
      refine ⟨_, rfl, _, rfl, _, rfl, _, rfl, st, c, wide, _, rfl, g1.sta, by omega, hw0, by omega, fun r2 o2 hs0 hs1 S2 => ⟨_, _, rfl, rfl, by show 2 ≤ sizeLine; decide, fun d nd => ?_⟩⟩
      have g2 := (g1.trans (Gs.of_upd S2)).new nd (o := .tup [.int (1 + r), .int (1 + r + r2)])
      have sE : Same (er H'' st) (er (upd (upd (upd H'' st o) st o2) d (.tup [.int (1 + r), .int (1 + r + r2)])) st) := by
        have z : Same (er H'' st) (er (upd (upd H'' st o) st o2) st) := by rw [er_upd, er_upd]; exact Same.refl _
        exact z.trans (er_mono (Same.new nd))
      have md := (g1.trans (Gs.of_upd S2)).sta.ne nd
      have hd : er (upd (upd (upd H'' st o) st o2) d (.tup [.int (1 + r), .int (1 + r + r2)])) st d = some (.tup [.int (1 + r), .int (1 + r + r2)]) := er_of md upd_same
      generalize upd (upd (upd H'' st o) st o2) d (.tup [.int (1 + r), .int (1 + r + r2)]) = Ha at g2 sE hd ⊢
      have ea := sE _ _ hD.at_
      have hk : (Sum.inr ys[i] : Key) ∉ kvs.map (·.1) := by
        rw [hD.keys]
        intro m
        obtain ⟨z, hz, ez⟩ := List.mem_map.mp m
        exact not_in_take yN hi (by rw [← Sum.inr.inj ez]; exact hz)
      have kl : kvs.length = i := by
        have := congrArg List.length hD.keys
        rw [List.length_map, List.length_map, List.length_take] at this
        omega
      refine ⟨_, rfl, _, rfl, p, _, rfl, .inl ⟨kvs, .inr ys[i], (er_same _ _) _ _ ea, rfl, by rw [kl]; exact Nat.lt_of_lt_of_le (show i < 65 by omega) (by decide), rfl⟩, ?_⟩
      rw [put_new kvs _ _ hk]
      refine ⟨_, _, kvs ++ [(.inr ys[i], .ref d)], rfl, (g2.le (by omega) (by omega)).set S.hc ep mp, ?_, ?_⟩
      · rw [er_updp mp, upd_ne npq.symm]; exact sE _ _ hq'
      · rw [er_updp mp]
        refine ⟨upd_same, ?_, fun n key w hn => ?_⟩
        · rw [List.map_append, hD.keys, List.take_succ, List.getElem?_eq_getElem hi, List.map_append]; rfl
        · rcases Nat.lt_or_ge n kvs.length with lt | ge
          · rw [List.getElem?_append_left lt] at hn
            obtain ⟨b2, l, m, e1, e2, e3⟩ := hD.vals n key w hn
            exact ⟨b2, l, m, e1, tupSet ea (noTup_dK _) (stUp e2 sE), e3⟩
          · rw [List.getElem?_append_right ge] at hn
            have e0 : n - kvs.length = 0 := by
              rcases Nat.eq_zero_or_pos (n - kvs.length) with z | z
              · exact z
              · rw [List.getElem?_eq_none (by simp; omega)] at hn
                cases hn
            rw [e0] at hn
            cases hn
            exact ⟨d, _, _, rfl, tupSet ea (noTup_dK _) (SqT.of hd), by omega, by omega, by omega, by omega, by omega⟩
    · rintro σ' H' ⟨x, y, kvs, rfl, g, hq', hD⟩
      rw [List.length_map, List.take_length] at hD
      exact ⟨_, rfl, k p ys kvs H' hperm (g.le (by rw [List.length_map]; omega) (by omega)) hD ep⟩
end
end K5
set_option Elab.async false
set_option linter.all false
set_option maxRecDepth 100000
set_option maxHeartbeats 4000000
namespace K5
open PySem L2
local macro_rules | `(tactic| walk_at "rd1") => `(tactic| first
  | refine ⟨_, _, rfl, rfl, ?_⟩
  | refine ⟨_, _, _, _, rfl, rfl, SqL.of (by assumption), rfl, ?_⟩
  | refine ⟨_, _, _, _, rfl, rfl, (by assumption), rfl, ?_⟩
  | refine .inl ⟨_, rfl, ?_⟩
  | refine ⟨_, rfl, ?_⟩
  | refine ⟨(by unfold CMul; omega), ?_⟩
  | refine ⟨(by unfold CPow; omega), ?_⟩
  | refine ⟨(by (try dsimp only); omega), ?_⟩
  | refine ⟨(by unfold CDiv; omega), ?_⟩
  | fail "rd1")
local macro_rules | `(tactic| walk_at "rd") => `(tactic| repeat' (walk_at "rd1"))
section
variable {P : Program} {w : World} {K : PySem.W.Frag} {mg : Str → Option Value} {base : Heap} {A : Ad}
inductive MomN (ns : List Str) : PyData → Prop
  | clock : MomN ns (.str "clock")
  | edge {e n : Str} (he : e = "start" ∨ e = "done") (hn : n ∈ ns) : MomN ns (.tuple [.str e, .str n])
inductive WshN (ns : List Str) : PyData → Prop
  | mk {a b : PyData} {m : Int} (ha : MomN ns a) (hb : MomN ns b) : WshN ns (.tuple [a, b, .int m])
end
end K5
set_option Elab.async false
set_option linter.all false
set_option maxRecDepth 100000
set_option maxHeartbeats 4000000
namespace K5
open PySem L2
local macro_rules | `(tactic| walk_at "rd1") => `(tactic| first
  | refine ⟨_, _, rfl, rfl, ?_⟩
  | refine ⟨_, _, _, _, rfl, rfl, SqL.of (by assumption), rfl, ?_⟩
  | refine ⟨_, _, _, _, rfl, rfl, (by assumption), rfl, ?_⟩
  | refine .inl ⟨_, rfl, ?_⟩
  | refine ⟨_, rfl, ?_⟩
  | refine ⟨(by unfold CMul; omega), ?_⟩
  | refine ⟨(by unfold CPow; omega), ?_⟩
  | refine ⟨(by (try dsimp only); omega), ?_⟩
  | refine ⟨(by unfold CDiv; omega), ?_⟩
  | fail "rd1")
local macro_rules | `(tactic| walk_at "rd") => `(tactic| repeat' (walk_at "rd1"))
section
variable {P : Program} {w : World} {K : PySem.W.Frag} {mg : Str → Option Value} {base : Heap} {A : Ad}
theorem noTup_lst (xs : List V) : NoTup (.lst xs) := ⟨fun _ z => (nomatch z), fun _ _ z => (nomatch z)⟩
end
end K5
set_option Elab.async false
set_option linter.all false
set_option maxRecDepth 100000
set_option maxHeartbeats 4000000
namespace K5
open PySem L2
local macro_rules | `(tactic| walk_at "rd1") => `(tactic| first
  | refine ⟨_, _, rfl, rfl, ?_⟩
  | refine ⟨_, _, _, _, rfl, rfl, SqL.of (by assumption), rfl, ?_⟩
  | refine ⟨_, _, _, _, rfl, rfl, (by assumption), rfl, ?_⟩
  | refine .inl ⟨_, rfl, ?_⟩
  | refine ⟨_, rfl, ?_⟩
  | refine ⟨(by unfold CMul; omega), ?_⟩
  | refine ⟨(by unfold CPow; omega), ?_⟩
  | refine ⟨(by (try dsimp only); omega), ?_⟩
  | refine ⟨(by unfold CDiv; omega), ?_⟩
  | fail "rd1")
local macro_rules | `(tactic| walk_at "rd") => `(tactic| repeat' (walk_at "rd1"))
section
variable {P : Program} {w : World} {K : PySem.W.Frag} {mg : Str → Option Value} {base : Heap} {A : Ad}
def letters : Str := "abcdefghijklmnopqrstuvwxyz"
structure Nm (s : Str) : Prop where
  noclock : s ≠ "clock"
  pos : 1 ≤ s.length
  most : s.length ≤ 8
  low : ∀ c ∈ s.cps.toList, c ∈ letters.cps.toList
theorem nm_dec {xs : List Str} (h : (xs.all fun s => (decide (s ≠ "clock") && (decide (1 ≤ s.length) && (decide (s.length ≤ 8) && s.cps.toList.all fun c => decide (c ∈ letters.cps.toList))))) = true) : ∀ s ∈ xs, Nm s := by
  intro s hs
  have := List.all_eq_true.mp h s hs
  simp only [Bool.and_eq_true, decide_eq_true_eq, List.all_eq_true] at this
  exact ⟨this.1, this.2.1, this.2.2.1, this.2.2.2⟩
theorem pool_nm : ∀ s ∈ pool, Nm s := nm_dec (by decide +kernel)
def spIsName : Sp := fun vs H Q _ => ∃ (s : Str), vs = [.str s] ∧ Nm s ∧ ∀ H', Same H H' → Q (.bl true) H'
theorem ok_isname (T : Txt K mg A) : FnOk P w K mg base CX0 1 A.a_is_name A.d_is_name P_is_name spIsName := by
  refine T.f_is_name.ok sc_is_name (fun vs H Q E h => ?_) (fun cdv A' outer s H vs Q E hr h => ?_)
  · obtain ⟨s, rfl, _⟩ := h
    rfl
  · obtain ⟨z, rfl, N, k⟩ := h
    refine ⟨_, (pss_cons (ps_if (PW.pt (pw_or (pt_not (pt_val (pe_callB call_isi (by rfl) T.isinstance (by decide +kernel) (pa_cons (pv 0) (pa_cons (pe_bltn (v := .ty "str") (u := .type "str") (by rfl) T.str (by decide +kernel) rfl) pa_nil))))) (pw_or1 (pt_cmpR op_eq (pv 0) (pe_glob (v := .str "clock") (by rfl) T.g_CLOCK.choose_spec ⟨_, rfl⟩) (nomark _)))))
 (pss_one (ps_ret pe_bl))
 pss_nil)
 (pss_one (ps_ret (pe_and (pe_chain op_le op_le pe_int (pe_callB call_len_str (by rfl) T.len PySem.boot_len (pa_cons (pv 0) pa_nil)) (pe_glob (v := .int 8) (by rfl) T.g_LONGEST_NAME.choose_spec ⟨_, rfl⟩)) (pe_one (pe_callB (cr_all rfl) (by rfl) T.all (by decide +kernel) (pa_cons (pe_lc (own := [("sign", 1)]) (g := gName 1) (by rfl) sc_is_name.nd (pi_str (pv 0)) (blkOk_by (N := N_is_name) (sc := defScope s_is_name) (by decide +kernel)) (fun _ _ _ _ _ => pg_name (i := 1) sc_is_name.nd rfl (Or.inl rfl)) (fun _ _ _ _ _ => pts_nil) (fun _ _ _ _ _ => (pe_cmpR op_in_sign (pv 1) (pe_glob (v := .str "abcdefghijklmnopqrstuvwxyz") (by rfl) T.g_LETTERS.choose_spec ⟨_, rfl⟩) (by rfl)))) pa_nil))))))), ?_⟩
    refine ⟨_, rfl, _, _, .type "str", _, true, rfl, .ty _, .base (.str _), kit_ty (by decide +kernel), _, rfl, iteF ?_⟩
    refine ⟨_, rfl, rfl, _, rfl, ite2 (fun q => absurd (of_decide_eq_true q) (fun q => N.noclock (V.str.inj q))) (fun _ => ?_)⟩
    have l8 := N.most
    have l1 := N.pos
    have hsz : z.length ≤ sizeLine := Nat.le_trans l8 (by decide)
    refine ⟨_, rfl, z, rfl, hsz, _, _, rfl, rfl, _, rfl, ite2 (fun _ => ?_) (fun q => (q (decide_eq_true (by omega))).elim)⟩
    refine ⟨_, _, rfl, rfl, _, rfl, ite2 (fun _ => ?_) (fun q => (q (decide_eq_true (by omega))).elim)⟩
    refine ⟨_, rfl, z, rfl, fun D hD => lc_it walk_str (fun i H' => Same H H' ∧ H' D = some (.lst ((List.replicate i true).map V.bl))) ⟨Same.new hD, upd_same⟩ (fun _ _ _ _ => trivial) ?_ (fun H' q => ?_)⟩
    · rintro i x H' H'' hi ⟨s1, hD'⟩ ⟨rfl, c, hc, rfl⟩
      have hm : c ∈ z.cps.toList := by
        have := Array.mem_of_getElem? hc
        exact Array.mem_toList_iff.mpr this
      have e1 : decide (c ∈ letters.cps.toList) = true := decide_eq_true (N.low c hm)
      refine ⟨rfl, _, rfl, c, letters, rfl, rfl, _, hD', by rw [List.length_map, List.length_replicate]; exact Nat.lt_of_lt_of_le hi hsz, ?_, ?_⟩
      · exact fun b u e => by rw [upd_ne (ne_of_none e hD)]; exact s1 _ _ e
      · rw [upd_same, e1, List.replicate_succ', List.map_append]; rfl
    · refine ⟨D, _, rfl, SqL.of q.2, ?_⟩
      rw [all_true]
      exact k _ q.1
theorem rdUp {H H' : Hp} {d : Addr} {u : HO} (h : Rd H d u) (s : Same H H') : Rd H' d u := h.elim (fun q => .inl (s _ _ q)) (fun ⟨o, q⟩ => .inr ⟨o, s _ _ q⟩)
/-- is_dish of a text, or of what is none -/
def spIsDish (K : PySem.W.Frag) : Sp := fun vs H Q _ => ∃ (x : V) (dd : Addr) (kvs : List (Key × V)), vs = [x, .ref dd] ∧ Rd H dd (.dK kvs) ∧
  ((∃ s, x = .str s ∧ Q (.bl (valV kvs (.inr s)).isSome) H) ∨ ∃ t, TyX K H x (.type t) ∧ kitB t "str" = some false ∧ Q (.bl false) H)
theorem ok_isdish (T : Txt K mg A) : FnOk P w K mg base CX0 1 A.a_is_dish A.d_is_dish P_is_dish (spIsDish K) := by
  refine T.f_is_dish.ok sc_is_dish (fun vs H Q E h => ?_) (fun cdv A' outer s H vs Q E hr h => ?_)
  · obtain ⟨s, dd, kvs, rfl, _⟩ := h
    rfl
  · obtain ⟨x, dd, kvs, rfl, hd, h⟩ := h
    refine ⟨_, (pss_one (ps_ret (pe_and (pe_callB call_isi (by rfl) T.isinstance (by decide +kernel) (pa_cons (pv 0) (pa_cons (pe_bltn (v := .ty "str") (u := .type "str") (by rfl) T.str (by decide +kernel) rfl) pa_nil))) (pe_one (pe_cmp (pc_din (hu_of hr) (pv 0) (pv 1)) rfl))))), ?_⟩
    rcases h with ⟨z, rfl, k⟩ | ⟨t, ht, hk, k⟩
    · exact ⟨_, rfl, _, _, .type "str", _, true, rfl, .ty _, .base (.str _), kit_ty (by decide +kernel), _, rfl, iteT ⟨_, rfl, _, rfl, dd, _, rfl, .inl ⟨kvs, .inr z, hd, rfl, rfl⟩, k⟩⟩
    · exact ⟨_, rfl, _, _, .type t, _, false, rfl, .ty _, ht, kit_ty hk, _, rfl, iteF k⟩
theorem valV_at : ∀ {kvs : List (Key × V)} {i : Nat} {k : Key} {v : V}, (kvs.map (·.1)).Nodup → kvs[i]? = some (k, v) → valV kvs k = some v
  | p :: r, 0, k, v, _, h => by
    have e : p = (k, v) := Option.some.inj h
    rw [valV_pos (by rw [e]), e]
  | p :: r, i + 1, k, v, hN, h => by
    have hr : r[i]? = some (k, v) := h
    rw [List.map_cons, List.nodup_cons] at hN
    rw [valV_neg (fun e => hN.1 (by rw [e]; exact List.mem_map.mpr ⟨(k, v), List.mem_of_getElem? hr, rfl⟩))]
    exact valV_at hN.2 hr
  | [], i, k, v, _, h => by simp at h
theorem fillD {J : It} {n : Nat} {G : Hp → Prop} {Y : Nat → Hp → V → Hp → Prop} (wk : Walk J n G Y) {g : TG} {tt : TT} {tk tv : TE} {vs : List Nat} {σ : St} {H1 : Hp} {D : Addr} {Qd : Hp → Prop} (I : Nat → Hp → Prop)
    (i0 : I 0 (upd H1 D (.dK []))) (iG : ∀ i H, i ≤ n → I i H → G H)
    (step : ∀ i x H H', i < n → I i H → Y i H x H' → g x (wipe σ vs) H' fun σ2 H2 => wipe σ2 vs = wipe σ vs ∧ tt σ2 H2 fun b H3 =>
      if b = true then tk σ2 H3 fun y H4 => tv σ2 H4 fun z H5 => ∃ kvs k, y = kV k ∧ H5 D = some (.dK kvs) ∧ kvs.length < sizeLine ∧ I (i + 1) (upd H5 D (.dK (putK kvs k z))) else I (i + 1) H3)
    (last : ∀ H, I n H → Qd H) :
    ∃ W : Nat → Nat → Hp → Prop, (∃ m, W 0 m (upd H1 D (.dK []))) ∧ ∀ i m H, W i m H →
      (J.stop i H ∧ Qd H) ∨ (J.go i H ∧ ∃ Nx : Hp → Prop, (∀ H', Nx H' → ∃ m', m' < m ∧ W (i + 1) m' H') ∧ ∀ x H', J.yld i H x H' → g x (wipe σ vs) H' fun σ2 H2 => wipe σ2 vs = wipe σ vs ∧ tt σ2 H2 fun b H3 =>
        if b = true then tk σ2 H3 fun y H4 => tv σ2 H4 fun z H5 => ∃ kvs k, y = kV k ∧ H5 D = some (.dK kvs) ∧ kvs.length < sizeLine ∧ Nx (upd H5 D (.dK (putK kvs k z))) else Nx H3) := by
  refine ⟨fun i m H => m + i = n ∧ I i H, ⟨n, rfl, i0⟩, fun i m H ⟨e, h⟩ => ?_⟩
  have g' := iG i H (by omega) h
  rcases Nat.lt_or_ge i n with lt | ge
  · exact .inr ⟨wk.goes i H lt g', I (i + 1), fun H' h' => ⟨m - 1, by omega, by omega, h'⟩, fun x H' y => step i x H H' lt h (wk.yields i H x H' lt g' y)⟩
  · obtain rfl : i = n := by omega
    exact .inl ⟨wk.stops H g', last H h⟩
def isI : PyData → Bool | .int _ => true | _ => false
def isL : PyData → Bool | .list _ => true | .tuple _ => true | _ => false
def spIsInt (K : PySem.W.Frag) : Sp := fun vs H Q _ => ∃ (x : V) (d : PyData), vs = [x] ∧ Dp K H x d ∧ Q (.bl (isI d)) H
def spIsList (K : PySem.W.Frag) : Sp := fun vs H Q _ => ∃ (x : V) (d : PyData), vs = [x] ∧ Dp K H x d ∧ ∀ H', Same H H' → Q (.bl (isL d)) H'
theorem ok_isint (T : Txt K mg A) : FnOk P w K mg base CX0 1 A.a_is_integer A.d_is_integer P_is_integer (spIsInt K) := by
  refine T.f_is_integer.ok sc_is_integer (fun vs H Q E h => ?_) (fun cdv A' outer s H vs Q E hr h => ?_)
  · obtain ⟨x, d, rfl, _⟩ := h
    rfl
  · obtain ⟨x, d, rfl, hx, k⟩ := h
    refine ⟨_, (pss_one (ps_ret (pe_and (pe_callB call_isi (by rfl) T.isinstance (by decide +kernel) (pa_cons (pv 0) (pa_cons (pe_bltn (v := .ty "int") (u := .type "int") (by rfl) T.int (by decide +kernel) rfl) pa_nil))) (pe_one (pe_not (pe_callB call_isi (by rfl) T.isinstance (by decide +kernel) (pa_cons (pv 0) (pa_cons (pe_bltn (v := .ty "bool") (u := .type "bool") (by rfl) T.bool (by decide +kernel) rfl) pa_nil)))))))), ?_⟩
    cases hx with
    | non => exact ⟨_, rfl, _, _, .type "NoneType", _, false, rfl, .ty _, .base .non, kit_ty (by decide +kernel), _, rfl, iteF k⟩
    | str z => exact ⟨_, rfl, _, _, .type "str", _, false, rfl, .ty _, .base (.str _), kit_ty (by decide +kernel), _, rfl, iteF k⟩
    | int i => exact ⟨_, rfl, _, _, .type "int", _, true, rfl, .ty _, .base (.int _), kit_ty (by decide +kernel), _, rfl, iteT ⟨_, rfl, _, _, .type "int", _, false, rfl, .ty _, .base (.int _), kit_ty (by decide +kernel), _, rfl, k⟩⟩
    | bl b => exact ⟨_, rfl, _, _, .type "bool", _, true, rfl, .ty _, .base (.bl _), kit_ty (by decide +kernel), _, rfl, iteT ⟨_, rfl, _, _, .type "bool", _, true, rfl, .ty _, .base (.bl _), kit_ty (by decide +kernel), _, rfl, k⟩⟩
    | lst h _ => exact ⟨_, rfl, _, _, .type "list", _, false, rfl, .ty _, tyL h, kit_ty (by decide +kernel), _, rfl, iteF k⟩
    | tup h _ => exact ⟨_, rfl, _, _, .type "tuple", _, false, rfl, .ty _, tyT h, kit_ty (by decide +kernel), _, rfl, iteF k⟩
theorem ok_islist (T : Txt K mg A) : FnOk P w K mg base CX0 1 A.a_is_list A.d_is_list P_is_list (spIsList K) := by
  refine T.f_is_list.ok sc_is_list (fun vs H Q E h => ?_) (fun cdv A' outer s H vs Q E hr h => ?_)
  · obtain ⟨x, d, rfl, _⟩ := h
    rfl
  · obtain ⟨x, d, rfl, hx, k⟩ := h
    refine ⟨_, (pss_one (ps_ret (pe_callB call_isiT (by rfl) T.isinstance (by decide +kernel) (pa_cons (pv 0) (pa_cons (pe_tup (pa_cons (pe_bltn (v := .ty "list") (u := .type "list") (by rfl) T.list (by decide +kernel) rfl) (pa_cons (pe_bltn (v := .ty "tuple") (u := .type "tuple") (by rfl) T.tuple (by decide +kernel) rfl) pa_nil))) pa_nil))))), ?_⟩
    refine ⟨_, rfl, by show 2 ≤ sizeLine; decide, fun p hp => ?_⟩
    have s1 : Same H (upd H p (.tup [.ty "list", .ty "tuple"])) := Same.new hp
    have k := k _ s1
    cases dpSame s1 hx with
    | non => exact ⟨_, p, _, _, _, false, rfl, upd_same, .cons (.ty _) (.cons (.ty _) .nil), .base .non, kit2 (a := "NoneType") (b := "list") (c := "tuple") (r := false) (s := false) (by decide +kernel) (by decide +kernel), k⟩
    | str z => exact ⟨_, p, _, _, _, false, rfl, upd_same, .cons (.ty _) (.cons (.ty _) .nil), .base (.str _), kit2 (a := "str") (b := "list") (c := "tuple") (r := false) (s := false) (by decide +kernel) (by decide +kernel), k⟩
    | int z => exact ⟨_, p, _, _, _, false, rfl, upd_same, .cons (.ty _) (.cons (.ty _) .nil), .base (.int _), kit2 (a := "int") (b := "list") (c := "tuple") (r := false) (s := false) (by decide +kernel) (by decide +kernel), k⟩
    | bl z => exact ⟨_, p, _, _, _, false, rfl, upd_same, .cons (.ty _) (.cons (.ty _) .nil), .base (.bl _), kit2 (a := "bool") (b := "list") (c := "tuple") (r := false) (s := false) (by decide +kernel) (by decide +kernel), k⟩
    | lst h _ => exact ⟨_, p, _, _, _, true, rfl, upd_same, .cons (.ty _) (.cons (.ty _) .nil), tyL h, kit2 (a := "list") (b := "list") (c := "tuple") (r := true) (s := false) (by decide +kernel) (by decide +kernel), k⟩
    | tup h _ => exact ⟨_, p, _, _, _, true, rfl, upd_same, .cons (.ty _) (.cons (.ty _) .nil), tyT h, kit2 (a := "tuple") (b := "list") (c := "tuple") (r := false) (s := true) (by decide +kernel) (by decide +kernel), k⟩
end
end K5
set_option Elab.async false
set_option linter.all false
set_option maxRecDepth 100000
set_option maxHeartbeats 4000000
namespace K5
open PySem L2
local macro_rules | `(tactic| walk_at "rd1") => `(tactic| first
  | refine ⟨_, _, rfl, rfl, ?_⟩
  | refine ⟨_, _, _, _, rfl, rfl, SqL.of (by assumption), rfl, ?_⟩
  | refine ⟨_, _, _, _, rfl, rfl, (by assumption), rfl, ?_⟩
  | refine .inl ⟨_, rfl, ?_⟩
  | refine ⟨_, rfl, ?_⟩
  | refine ⟨(by unfold CMul; omega), ?_⟩
  | refine ⟨(by unfold CPow; omega), ?_⟩
  | refine ⟨(by (try dsimp only); omega), ?_⟩
  | refine ⟨(by unfold CDiv; omega), ?_⟩
  | fail "rd1")
local macro_rules | `(tactic| walk_at "rd") => `(tactic| repeat' (walk_at "rd1"))
section
variable {P : Program} {w : World} {K : PySem.W.Frag} {mg : Str → Option Value} {base : Heap} {A : Ad}
mutual
def strip : PyData → PyData
  | .list xs => .tuple (stripAll xs)
  | .tuple xs => .tuple (stripAll xs)
  | d => d
def stripAll : List PyData → List PyData
  | [] => []
  | d :: ds => strip d :: stripAll ds
end
def SqX (K : PySem.W.Frag) (H : Hp) (a : Addr) (xs : List V) : Prop := SqL K H a xs ∨ SqT K H a xs
theorem sxUp {H H' : Hp} {a : Addr} {xs : List V} (h : SqX K H a xs) (s : Same H H') : SqX K H' a xs := h.elim (fun q => .inl (sqUp q s)) (fun q => .inr (stUp q s))
theorem stripAll_map : ∀ ds : List PyData, stripAll ds = ds.map strip
  | [] => rfl
  | d :: ds => by rw [stripAll, stripAll_map ds]; rfl
theorem strip_non : strip .none = .none := by simp [strip]
theorem strip_bl (b : Bool) : strip (.bool b) = .bool b := by simp [strip]
theorem strip_int (i : Int) : strip (.int i) = .int i := by simp [strip]
theorem strip_str (s : Str) : strip (.str s) = .str s := by simp [strip]
theorem dp_atom {H : Hp} {x : V} {d : PyData} (h : Dp K H x d) : (∀ s, strip d = .str s → x = .str s ∧ d = .str s) ∧ ∀ i, strip d = .int i → x = .int i ∧ d = .int i := by
  cases h <;> (constructor <;> intro z e <;> first | (simp only [strip_non, strip_bl, strip_int, strip_str] at e; cases e; first | exact ⟨rfl, rfl⟩ | done) | (rw [strip] at e; cases e))
theorem dp_seq {H : Hp} {x : V} {d : PyData} {es : List PyData} (h : Dp K H x d) (e : strip d = .tuple es) : ∃ a xs ds, x = .ref a ∧ SqX K H a xs ∧ DpAll K H xs ds ∧ stripAll ds = es ∧ isL d = true ∧ (d = .list ds ∨ d = .tuple ds) := by
  cases h with
  | lst hL hA =>
    rw [strip] at e
    exact ⟨_, _, _, rfl, .inl hL, hA, PyData.tuple.inj e, rfl, .inl rfl⟩
  | tup hL hA =>
    rw [strip] at e
    exact ⟨_, _, _, rfl, .inr hL, hA, PyData.tuple.inj e, rfl, .inr rfl⟩
  | _ => simp only [strip_non, strip_bl, strip_int, strip_str] at e; cases e
theorem dpAll_one {H : Hp} {xs : List V} {ds : List PyData} {p : PyData} {r : List PyData} (h : DpAll K H xs ds) (e : stripAll ds = p :: r) : ∃ u xr d dr, xs = u :: xr ∧ ds = d :: dr ∧ Dp K H u d ∧ strip d = p ∧ DpAll K H xr dr ∧ stripAll dr = r := by
  cases h with
  | nil => rw [stripAll] at e; cases e
  | cons a b =>
    rw [stripAll] at e
    injection e with e1 e2
    exact ⟨_, _, _, _, rfl, rfl, a, e1, b, e2⟩
theorem dpAll_nil {H : Hp} {xs : List V} {ds : List PyData} (h : DpAll K H xs ds) (e : stripAll ds = []) : xs = [] ∧ ds = [] := by
  cases h with
  | nil => exact ⟨rfl, rfl⟩
  | cons a b => rw [stripAll] at e; cases e
theorem dp2 {H : Hp} {x : V} {d p q : PyData} (h : Dp K H x d) (e : strip d = .tuple [p, q]) : ∃ a u v d1 d2, x = .ref a ∧ SqX K H a [u, v] ∧ Dp K H u d1 ∧ Dp K H v d2 ∧ strip d1 = p ∧ strip d2 = q ∧ isL d = true ∧ (d = .list [d1, d2] ∨ d = .tuple [d1, d2]) := by
  obtain ⟨a, xs, ds, rfl, hq, hA, e1, hl, hd⟩ := dp_seq h e
  obtain ⟨u, xr, d1, dr, rfl, rfl, h1, e2, hA, e1⟩ := dpAll_one hA e1
  obtain ⟨v, xr, d2, dr, rfl, rfl, h2, e3, hA, e1⟩ := dpAll_one hA e1
  obtain ⟨rfl, rfl⟩ := dpAll_nil hA e1
  exact ⟨a, u, v, d1, d2, rfl, hq, h1, h2, e2, e3, hl, hd⟩
theorem dp3 {H : Hp} {x : V} {d p q r : PyData} (h : Dp K H x d) (e : strip d = .tuple [p, q, r]) : ∃ a u v w d1 d2 d3, x = .ref a ∧ SqX K H a [u, v, w] ∧ Dp K H u d1 ∧ Dp K H v d2 ∧ Dp K H w d3 ∧ strip d1 = p ∧ strip d2 = q ∧ strip d3 = r ∧ isL d = true := by
  obtain ⟨a, xs, ds, rfl, hq, hA, e1, hl, hd⟩ := dp_seq h e
  obtain ⟨u, xr, d1, dr, rfl, rfl, h1, e2, hA, e1⟩ := dpAll_one hA e1
  obtain ⟨v, xr, d2, dr, rfl, rfl, h2, e3, hA, e1⟩ := dpAll_one hA e1
  obtain ⟨w, xr, d3, dr, rfl, rfl, h3, e4, hA, e1⟩ := dpAll_one hA e1
  obtain ⟨rfl, rfl⟩ := dpAll_nil hA e1
  exact ⟨a, u, v, w, d1, d2, d3, rfl, hq, h1, h2, h3, e2, e3, e4, hl⟩
theorem dpAll_strs {H : Hp} : ∀ {ss : List Str} {xs : List V} {ds : List PyData}, DpAll K H xs ds → stripAll ds = ss.map PyData.str → xs = ss.map V.str
  | [], _, _, h, e => (dpAll_nil h e).1
  | s :: ss, _, _, h, e => by
    obtain ⟨u, xr, d1, dr, rfl, rfl, h1, e2, hA, e1⟩ := dpAll_one h e
    rw [dpAll_strs hA e1, ((dp_atom h1).1 _ e2).1]; rfl
theorem seq_or {H0 H : Hp} {t : Addr} {xs : List V} {j : Nat} {σ : St} {R : It → Hp → Prop} (h : SqX K H0 t xs) (s0 : Same H0 H) (hj : σ[j]? = some (some (.ref t))) (hR : ∀ J G, Walk J xs.length G (YAt xs) → (∀ H', Same H0 H' → G H') → R J H) :
    iList K (tVar j) σ H R ∨ iTup K (tVar j) σ H R :=
  h.elim (fun q => .inl ⟨_, hj, t, rfl, ⟨_, sqUp q s0⟩, hR _ _ walk_list fun H' s => sqUp q s⟩) (fun q => .inr ⟨_, hj, t, rfl, ⟨_, stUp q s0⟩, hR _ _ walk_tup fun H' s => stUp q s⟩)
theorem enum_or {H0 H : Hp} {t : Addr} {xs : List V} {j : Nat} {σ : St} {R : It → Hp → Prop} (h : SqX K H0 t xs) (s0 : Same H0 H) (hj : σ[j]? = some (some (.ref t))) (hR : ∀ J G, Walk J xs.length G (YPair (fun i => some (.int (i : Nat))) (fun i => xs[i]?)) → (∀ H', Same H0 H' → G H') → R J H) :
    iEnum K (tCons (tVar j) tNil) σ H R ∨ EnT.iEnumT K (tCons (tVar j) tNil) σ H R :=
  h.elim (fun q => .inl ⟨_, hj, t, _, rfl, sqUp q s0, hR _ _ walk_enum fun H' s => sqUp q s⟩) (fun q => .inr ⟨_, hj, t, _, rfl, stUp q s0, hR _ _ EnT.walk_enumT fun H' s => stUp q s⟩)
theorem lt_of {H : Hp} {p : Addr} {xs : List V} {i : Int} {v : V} {Q : VK} (h : SqX K H p xs) (e : atI xs i = some v) (q : Q v H) : Own.rIxLT K (.ref p) (.int i) H Q :=
  h.elim (fun z => .inl ⟨p, xs, i, v, rfl, rfl, z, e, q⟩) (fun z => .inr ⟨p, xs, i, v, rfl, rfl, z, e, q⟩)
theorem un2 {H : Hp} {a : Addr} {x y : V} {σ : St} {i j : Nat} {Q : St → Hp → Prop} (h : SqX K H a [x, y]) (q : Q ((σ.set i (some x)).set j (some y)) H) : gLst K 2 (gCons (gName i) (gCons (gName j) gNil)) (.ref a) σ H Q ∨ gTup K 2 (gCons (gName i) (gCons (gName j) gNil)) (.ref a) σ H Q :=
  h.elim (fun z => .inl ⟨a, _, rfl, z, rfl, _, _, rfl, _, _, rfl, rfl, q⟩) (fun z => .inr ⟨a, _, rfl, z, rfl, _, _, rfl, _, _, rfl, rfl, q⟩)
theorem un3 {H : Hp} {a : Addr} {x y w : V} {σ : St} {i j l : Nat} {Q : St → Hp → Prop} (h : SqX K H a [x, y, w]) (q : Q (((σ.set i (some x)).set j (some y)).set l (some w)) H) : gLst K 3 (gCons (gName i) (gCons (gName j) (gCons (gName l) gNil))) (.ref a) σ H Q ∨ gTup K 3 (gCons (gName i) (gCons (gName j) (gCons (gName l) gNil))) (.ref a) σ H Q :=
  h.elim (fun z => .inl ⟨a, _, rfl, z, rfl, _, _, rfl, _, _, rfl, _, _, rfl, rfl, q⟩) (fun z => .inr ⟨a, _, rfl, z, rfl, _, _, rfl, _, _, rfl, _, _, rfl, rfl, q⟩)
inductive Mom (kvs : List (Key × V)) : PyData → Prop
  | clock : Mom kvs (.str "clock")
  | edge {e n : Str} (he : e = "start" ∨ e = "done") (hn : (valV kvs (.inr n)).isSome = true) (ok : PyData.strOk n = true) : Mom kvs (.tuple [.str e, .str n])
inductive Wsh (kvs : List (Key × V)) : PyData → Prop
  | mk {a b : PyData} {m : Int} (ha : Mom kvs a) (hb : Mom kvs b) : Wsh kvs (.tuple [a, b, .int m])
def Stn (kvs : List (Key × V)) (d : PyData) : Prop := ∃ ss : List Str, d = .tuple (ss.map PyData.str) ∧ ss.Nodup ∧ 2 ≤ ss.length ∧ ss.length ≤ 64 ∧ ∀ s ∈ ss, (valV kvs (.inr s)).isSome = true
def spBounds (K : PySem.W.Frag) : Sp := fun vs H Q _ => ∃ (a : Addr) (l m : Int), vs = [.ref a] ∧ SqX K H a [.int l, .int m] ∧ 1 ≤ l ∧ l ≤ m ∧ ∀ H', Same H H' → Q (.bl true) H'
theorem ok_bounds (T : Txt K mg A) : FnOk P w K mg base CX0 2 A.a_is_bounds A.d_is_bounds P_is_bounds (spBounds K) := by
  have G_is_list : FnOk P w K mg base CX0 1 A.a_is_list A.d_is_list P_is_list (spIsList K) := ok_islist T
  have G_is_integer : FnOk P w K mg base CX0 1 A.a_is_integer A.d_is_integer P_is_integer (spIsInt K) := ok_isint T
  refine T.f_is_bounds.ok sc_is_bounds (fun vs H Q E h => ?_) (fun cdv A' outer s H vs Q E hr h => ?_)
  · obtain ⟨a, l, m, rfl, _⟩ := h
    rfl
  · obtain ⟨a, l, m, rfl, ha, h1, h2, k⟩ := h
    refine ⟨_, (pss_cons (ps_if (PW.pt (pw_or (pt_not (pt_val (pe_call G_is_list (hr.mono (by omega)) (by rfl) T.g_is_list T.f_is_list.kp T.b_is_list .nil pass0 (pa_cons (pv 0) pa_nil)))) (pw_or1 (pt_cmpR op_ne (pe_callB call_len_seq (by rfl) T.len PySem.boot_len (pa_cons (pv 0) pa_nil)) pe_int (nomark _)))))
 (pss_one (ps_ret pe_bl))
 pss_nil)
 (pss_cons (ps_asg (pv 0) (Own.pg_lt (by rfl) (pgs_cons (pg_name (i := 1) sc_is_bounds.nd rfl (Or.inl rfl)) (pgs_cons (pg_name (i := 2) sc_is_bounds.nd rfl (Or.inl rfl)) pgs_nil))))
 (pss_one (ps_ret (pe_and (pe_call G_is_integer (hr.mono (by omega)) (by rfl) T.g_is_integer T.f_is_integer.kp T.b_is_integer .nil pass0 (pa_cons (pv 1) pa_nil)) (pe_and (pe_call G_is_integer (hr.mono (by omega)) (by rfl) T.g_is_integer T.f_is_integer.kp T.b_is_integer .nil pass0 (pa_cons (pv 2) pa_nil)) (pe_one (pe_chain op_le op_le pe_int (pv 1) (pv 2))))))))), ?_⟩
    obtain ⟨d, hD, hL⟩ : ∃ d, Dp K H (.ref a) d ∧ isL d = true := ha.elim (fun q => ⟨_, .lst q (.cons (.int l) (.cons (.int m) .nil)), rfl⟩) (fun q => ⟨_, .tup q (.cons (.int l) (.cons (.int m) .nil)), rfl⟩)
    refine ⟨_, rfl, .ref a, d, rfl, hD, fun H1 s1 => ⟨_, rfl, ?_⟩⟩
    rw [hL]
    refine iteF ?_
    have ha1 := sxUp ha s1
    refine ⟨_, rfl, a, _, rfl, ha1, rfl, _, rfl, iteF ?_⟩
    refine ⟨_, rfl, un2 ha1 ?_⟩
    refine ⟨_, rfl, .int l, .int l, rfl, .int l, _, rfl, iteT ?_⟩
    refine ⟨_, rfl, .int m, .int m, rfl, .int m, _, rfl, iteT ?_⟩
    refine ⟨_, rfl, _, _, rfl, rfl, _, rfl, ite2 (fun _ => ?_) (fun q => (q (decide_eq_true h1)).elim)⟩
    refine ⟨_, rfl, _, _, rfl, rfl, ?_⟩
    show Q (.bl (decide (l ≤ m))) H1
    rw [decide_eq_true h2]
    exact k _ s1
def spMoment (K : PySem.W.Frag) : Sp := fun vs H Q _ => ∃ (x : V) (dd : Addr) (d : PyData) (kvs : List (Key × V)), vs = [x, .ref dd] ∧ Dp K H x d ∧ Mom kvs (strip d) ∧ Rd H dd (.dK kvs) ∧ ∀ H', Same H H' → Q (.bl true) H'
theorem ok_moment (T : Txt K mg A) : FnOk P w K mg base CX0 2 A.a_is_moment A.d_is_moment P_is_moment (spMoment K) := by
  have G_is_list : FnOk P w K mg base CX0 1 A.a_is_list A.d_is_list P_is_list (spIsList K) := ok_islist T
  have G_is_dish : FnOk P w K mg base CX0 1 A.a_is_dish A.d_is_dish P_is_dish (spIsDish K) := ok_isdish T
  refine T.f_is_moment.ok sc_is_moment (fun vs H Q E h => ?_) (fun cdv A' outer s H vs Q E hr h => ?_)
  · obtain ⟨x, dd, d, kvs, rfl, _⟩ := h
    rfl
  · obtain ⟨x, dd, d, kvs, rfl, hx, hm, hd, k⟩ := h
    refine ⟨_, (pss_cons (ps_if (pt_not (pt_val (pe_call G_is_list (hr.mono (by omega)) (by rfl) T.g_is_list T.f_is_list.kp T.b_is_list .nil pass0 (pa_cons (pv 0) pa_nil))))
 (pss_one (ps_ret (pe_cmpR (op_eqD hr.units) (pv 0) (pe_glob (v := .str "clock") (by rfl) T.g_CLOCK.choose_spec ⟨_, rfl⟩) (nomark _))))
 pss_nil)
 (pss_one (ps_ret (pe_and (pe_cmpR op_eq (pe_callB call_len_seq (by rfl) T.len PySem.boot_len (pa_cons (pv 0) pa_nil)) pe_int (nomark _)) (pe_and (pe_cmpR op_in_seq (pe_ix (Own.ixLtOf (K := K) rfl) (pv 0) pe_int (fun _ _ => rfl)) (pe_glob (v := .ref A.a_EDGES) (by rfl) T.g_EDGES rfl) (by rfl)) (pe_one (pe_call G_is_dish (hr.mono (by omega)) (by rfl) T.g_is_dish T.f_is_dish.kp T.b_is_dish .nil pass0 (pa_cons (pe_ix (Own.ixLtOf (K := K) rfl) (pv 0) pe_int (fun _ _ => rfl)) (pa_cons (pv 1) pa_nil))))))))), ?_⟩
    generalize hz : strip d = z at hm
    cases hm with
    | clock =>
      obtain ⟨rfl, rfl⟩ := (dp_atom hx).1 _ hz
      refine ⟨_, rfl, _, _, rfl, .str _, fun H1 s1 => ⟨_, rfl, iteT ?_⟩⟩
      exact ⟨_, rfl, _, _, .str _, .str _, by decide +kernel, by decide +kernel, k _ s1⟩
    | @edge e n he hn ok =>
      obtain ⟨a, u, v, d1, d2, rfl, hq, h1, h2, e1, e2, hL, _⟩ := dp2 hx hz
      obtain ⟨rfl, rfl⟩ := (dp_atom h1).1 _ e1
      obtain ⟨rfl, rfl⟩ := (dp_atom h2).1 _ e2
      refine ⟨_, rfl, _, _, rfl, hx, fun H1 s1 => ⟨_, rfl, ?_⟩⟩
      rw [hL]
      refine iteF ?_
      have hq1 := sxUp hq s1
      refine ⟨_, rfl, _, _, rfl, hq1, rfl, _, rfl, iteT ?_⟩
      have hE : SqT K H1 A.a_EDGES [.str "start", .str "done"] := stUp T.t_EDGES (fun _ _ z => nomatch z)
      refine ⟨_, rfl, lt_of hq1 rfl ⟨_, _, rfl, .inr hE, rfl, rfl, _, rfl, ite2 (fun _ => ?_) (fun z => (z ?_).elim)⟩⟩
      · refine ⟨_, rfl, lt_of hq1 rfl ⟨_, rfl, .str n, dd, kvs, rfl, rdUp hd s1, .inl ⟨n, rfl, ?_⟩⟩⟩
        rw [hn]
        exact k _ s1
      · rcases he with q | q <;> (subst q; decide +kernel)
end
end K5
set_option Elab.async false
set_option linter.all false
set_option maxRecDepth 100000
set_option maxHeartbeats 4000000
namespace K5
open PySem L2
local macro_rules | `(tactic| walk_at "rd1") => `(tactic| first
  | refine ⟨_, _, rfl, rfl, ?_⟩
  | refine ⟨_, _, _, _, rfl, rfl, SqL.of (by assumption), rfl, ?_⟩
  | refine ⟨_, _, _, _, rfl, rfl, (by assumption), rfl, ?_⟩
  | refine .inl ⟨_, rfl, ?_⟩
  | refine ⟨_, rfl, ?_⟩
  | refine ⟨(by unfold CMul; omega), ?_⟩
  | refine ⟨(by unfold CPow; omega), ?_⟩
  | refine ⟨(by (try dsimp only); omega), ?_⟩
  | refine ⟨(by unfold CDiv; omega), ?_⟩
  | fail "rd1")
local macro_rules | `(tactic| walk_at "rd") => `(tactic| repeat' (walk_at "rd1"))
section
variable {P : Program} {w : World} {K : PySem.W.Frag} {mg : Str → Option Value} {base : Heap} {A : Ad}
def spWish (K : PySem.W.Frag) : Sp := fun vs H Q _ => ∃ (x : V) (dd : Addr) (d : PyData) (kvs : List (Key × V)), vs = [x, .ref dd] ∧ Dp K H x d ∧ Wsh kvs (strip d) ∧ Rd H dd (.dK kvs) ∧ ∀ H', Same H H' → Q (.bl true) H'
theorem ok_wish (T : Txt K mg A) : FnOk P w K mg base CX0 3 A.a_is_wish A.d_is_wish P_is_wish (spWish K) := by
  have G_is_list : FnOk P w K mg base CX0 1 A.a_is_list A.d_is_list P_is_list (spIsList K) := ok_islist T
  have G_is_integer : FnOk P w K mg base CX0 1 A.a_is_integer A.d_is_integer P_is_integer (spIsInt K) := ok_isint T
  have G_is_moment : FnOk P w K mg base CX0 2 A.a_is_moment A.d_is_moment P_is_moment (spMoment K) := ok_moment T
  refine T.f_is_wish.ok sc_is_wish (fun vs H Q E h => ?_) (fun cdv A' outer s H vs Q E hr h => ?_)
  · obtain ⟨x, dd, d, kvs, rfl, _⟩ := h
    rfl
  · obtain ⟨x, dd, d, kvs, rfl, hx, hm, hd, k⟩ := h
    refine ⟨_, (pss_cons (ps_if (PW.pt (pw_or (pt_not (pt_val (pe_call G_is_list (hr.mono (by omega)) (by rfl) T.g_is_list T.f_is_list.kp T.b_is_list .nil pass0 (pa_cons (pv 0) pa_nil)))) (pw_or1 (pt_cmpR op_ne (pe_callB call_len_seq (by rfl) T.len PySem.boot_len (pa_cons (pv 0) pa_nil)) pe_int (nomark _)))))
 (pss_one (ps_ret pe_bl))
 pss_nil)
 (pss_cons (ps_asg (pv 0) (Own.pg_lt (by rfl) (pgs_cons (pg_name (i := 2) sc_is_wish.nd rfl (Or.inl rfl)) (pgs_cons (pg_name (i := 3) sc_is_wish.nd rfl (Or.inl rfl)) (pgs_cons (pg_name (i := 4) sc_is_wish.nd rfl (Or.inl rfl)) pgs_nil)))))
 (pss_one (ps_ret (pe_and (pe_call G_is_moment (hr.mono (by omega)) (by rfl) T.g_is_moment T.f_is_moment.kp T.b_is_moment .nil pass0 (pa_cons (pv 2) (pa_cons (pv 1) pa_nil))) (pe_and (pe_call G_is_moment (hr.mono (by omega)) (by rfl) T.g_is_moment T.f_is_moment.kp T.b_is_moment .nil pass0 (pa_cons (pv 3) (pa_cons (pv 1) pa_nil))) (pe_one (pe_call G_is_integer (hr.mono (by omega)) (by rfl) T.g_is_integer T.f_is_integer.kp T.b_is_integer .nil pass0 (pa_cons (pv 4) pa_nil))))))))), ?_⟩
    generalize hz : strip d = z at hm
    cases hm with
    | @mk p q m ha hb =>
      obtain ⟨a, u, v, t, d1, d2, d3, rfl, hq, h1, h2, h3, e1, e2, e3, hL⟩ := dp3 hx hz
      obtain ⟨rfl, rfl⟩ := (dp_atom h3).2 _ e3
      subst e1
      subst e2
      refine ⟨_, rfl, _, _, rfl, hx, fun H1 s1 => ⟨_, rfl, ?_⟩⟩
      rw [hL]
      refine iteF ?_
      have hq1 := sxUp hq s1
      refine ⟨_, rfl, _, _, rfl, hq1, rfl, _, rfl, iteF ?_⟩
      refine ⟨_, rfl, un3 hq1 ?_⟩
      refine ⟨_, rfl, _, rfl, u, dd, d1, kvs, rfl, dpSame s1 h1, ha, rdUp hd s1, fun H2 s2 => ⟨_, rfl, iteT ?_⟩⟩
      refine ⟨_, rfl, _, rfl, v, dd, d2, kvs, rfl, dpSame (s1.trans s2) h2, hb, rdUp hd (s1.trans s2), fun H3 s3 => ⟨_, rfl, iteT ?_⟩⟩
      exact ⟨_, rfl, .int m, .int m, rfl, .int m, k _ ((s1.trans s2).trans s3)⟩
def spStation (K : PySem.W.Frag) : Sp := fun vs H Q _ => ∃ (x : V) (dd : Addr) (d : PyData) (kvs : List (Key × V)), vs = [x, .ref dd] ∧ Dp K H x d ∧ Stn kvs (strip d) ∧ Rd H dd (.dK kvs) ∧ ∀ H', Same H H' → Q (.bl true) H'
theorem ok_station (T : Txt K mg A) : FnOk P w K mg base CX0 2 A.a_is_station A.d_is_station P_is_station (spStation K) := by
  have G_is_list : FnOk P w K mg base CX0 1 A.a_is_list A.d_is_list P_is_list (spIsList K) := ok_islist T
  have G_is_dish : FnOk P w K mg base CX0 1 A.a_is_dish A.d_is_dish P_is_dish (spIsDish K) := ok_isdish T
  refine T.f_is_station.ok sc_is_station (fun vs H Q E h => ?_) (fun cdv A' outer s H vs Q E hr h => ?_)
  · obtain ⟨x, dd, d, kvs, rfl, _⟩ := h
    rfl
  · obtain ⟨x, dd, d, kvs, rfl, hx, ⟨ss, hz, nd, l2, l64, hin⟩, hd, k⟩ := h
    refine ⟨_, (pss_cons (ps_if (PW.pt (pw_or (pt_not (pt_val (pe_call G_is_list (hr.mono (by omega)) (by rfl) T.g_is_list T.f_is_list.kp T.b_is_list .nil pass0 (pa_cons (pv 0) pa_nil)))) (pw_or1 (pt_cmpR op_lt (pe_callB call_len_seq (by rfl) T.len PySem.boot_len (pa_cons (pv 0) pa_nil)) pe_int (nomark _)))))
 (pss_one (ps_ret pe_bl))
 pss_nil)
 (pss_one (ps_ret (pe_and (pe_callB (cr_all rfl) (by rfl) T.all (by decide +kernel) (pa_cons (pe_lc (own := [("name", 2)]) (g := gName 2) (by rfl) sc_is_station.nd (EnT.pi_or (pi_list (pv 0)) (pi_tup (pv 0))) (blkOk_by (N := N_is_station) (sc := defScope s_is_station) (by decide +kernel)) (fun _ _ _ _ _ => pg_name (i := 2) sc_is_station.nd rfl (Or.inl rfl)) (fun _ _ _ _ _ => pts_nil) (fun _ _ _ _ _ => (pe_call G_is_dish (hr.mono (by omega)) (by rfl) T.g_is_dish T.f_is_dish.kp T.b_is_dish .nil pass0 (pa_cons (pv 2) (pa_cons (pv 1) pa_nil))))) pa_nil)) (pe_one (pe_cmpR op_eq (Own.pe_lenTexts rfl (by rfl) T.len (by rfl) T.set (pv 0)) (pe_callB call_len_seq (by rfl) T.len PySem.boot_len (pa_cons (pv 0) pa_nil)) (nomark _))))))), ?_⟩
    obtain ⟨a, xs, ds, rfl, hq, hA, e1, hL, _⟩ := dp_seq hx hz
    obtain rfl := dpAll_strs hA e1
    refine ⟨_, rfl, _, _, rfl, hx, fun H1 s1 => ⟨_, rfl, ?_⟩⟩
    rw [hL]
    refine iteF ?_
    have hq1 := sxUp hq s1
    refine ⟨_, rfl, _, _, rfl, hq1, _, _, rfl, rfl, _, rfl, ite2 (fun z => ?_) (fun _ => ?_)⟩
    · have z : ((ss.map V.str).length : Int) < 2 := of_decide_eq_true z
      rw [List.length_map] at z; omega
    refine seq_or (H0 := H1) hq1 (Same.refl _) rfl fun J G wk hG => fun D hD => lc_it wk (fun i H' => Same H1 H' ∧ H' D = some (.lst ((List.replicate i true).map V.bl))) ⟨Same.new hD, upd_same⟩ (fun i H' _ z => hG H' z.1) ?_ (fun H2 z => ?_)
    · rintro i x H' H'' hi ⟨s2, hD2⟩ ⟨rfl, hx'⟩
      obtain ⟨hi2, rfl⟩ := str_at hx'
      refine ⟨rfl, _, rfl, _, rfl, .str ss[i], dd, kvs, rfl, rdUp hd (s1.trans s2), .inl ⟨_, rfl, ?_⟩⟩
      rw [hin _ (List.getElem_mem hi2)]
      refine ⟨_, hD2, by rw [List.length_map, List.length_replicate]; exact Nat.lt_of_lt_of_le (show i < 64 by omega) (by decide), ?_, ?_⟩
      · exact fun b u e => by rw [upd_ne (ne_of_none e hD)]; exact s2 _ _ e
      · rw [upd_same, List.replicate_succ', List.map_append]; rfl
    obtain ⟨s2, hD2⟩ := z
    have S2 := s1.trans s2
    refine ⟨D, _, rfl, SqL.of hD2, ?_⟩
    rw [all_true]
    refine ⟨_, rfl, iteT ?_⟩
    refine ⟨_, rfl, a, ss, rfl, sxUp hq S2, nd, l64, _, rfl, a, _, rfl, sxUp hq S2, rfl, ?_⟩
    rw [List.length_map, decide_eq_true rfl]
    exact k _ S2
def spAsM (K : PySem.W.Frag) : Sp := fun vs H Q _ => ∃ (x : V) (d : PyData) (kvs : List (Key × V)), vs = [x] ∧ Dp K H x d ∧ Mom kvs (strip d) ∧ ∀ r H', Same H H' → Dp K H' r (strip d) → Q r H'
theorem ok_asm (T : Txt K mg A) : FnOk P w K mg base CX0 1 A.a_as_moment A.d_as_moment P_as_moment (spAsM K) := by
  refine T.f_as_moment.ok sc_as_moment (fun vs H Q E h => ?_) (fun cdv A' outer s H vs Q E hr h => ?_)
  · obtain ⟨x, d, kvs, rfl, _⟩ := h
    rfl
  · obtain ⟨x, d, kvs, rfl, hx, hm, k⟩ := h
    refine ⟨_, (pss_one (ps_ret (pe_ifExp (pt_cmpR (op_eqD hr.units) (pv 0) (pe_glob (v := .str "clock") (by rfl) T.g_CLOCK.choose_spec ⟨_, rfl⟩) (nomark _)) (pe_glob (v := .str "clock") (by rfl) T.g_CLOCK.choose_spec ⟨_, rfl⟩) (pe_callTy call_tuple_of (by rfl) T.tuple (by decide +kernel) (pa_cons (pv 0) pa_nil))))), ?_⟩
    generalize hz : strip d = z at hm k
    cases hm with
    | clock =>
      obtain ⟨rfl, rfl⟩ := (dp_atom hx).1 _ hz
      exact ⟨_, rfl, _, _, .str _, .str _, by decide +kernel, by decide +kernel, _, rfl, iteT (k _ _ (Same.refl _) (.str _))⟩
    | @edge e n he hn ok =>
      obtain ⟨a, u, v, d1, d2, rfl, hq, h1, h2, e1, e2, hL, hd⟩ := dp2 hx hz
      obtain ⟨rfl, rfl⟩ := (dp_atom h1).1 _ e1
      obtain ⟨rfl, rfl⟩ := (dp_atom h2).1 _ e2
      have he' : PyData.strOk e = true := by rcases he with q | q <;> (subst q; decide +kernel)
      have hsh : SeqAt.shaped d = true := by
        rcases hd with rfl | rfl <;> simp [SeqAt.shaped, PyData.canLay0, PyData.canLayAll0, PyData.depth, PyData.depthAll, he', ok]
      have hne : PyData.eqv d (.str "clock") = false := by
        rcases hd with rfl | rfl <;> simp [PyData.eqv]
      have fin : ∀ r H', Same H H' → SqT K H' r [.str e, .str n] → Q (.ref r) H' := fun r H' s z => k _ _ s (.tup z (.cons (.str _) (.cons (.str _) .nil)))
      refine ⟨_, rfl, _, _, hx, .str _, hsh, by decide +kernel, _, rfl, ?_⟩
      rw [hne]
      refine iteF ?_
      refine ⟨_, rfl, a, [.str e, .str n], rfl, ?_⟩
      exact hq.elim (fun z => .inl ⟨z, fun l nl => fin l _ (Same.new nl) (SqT.of upd_same)⟩) (fun z => .inr ⟨z, fin a H (Same.refl _) z⟩)
def spAsW (K : PySem.W.Frag) : Sp := fun vs H Q _ => ∃ (x : V) (d : PyData) (kvs : List (Key × V)), vs = [x] ∧ Dp K H x d ∧ Wsh kvs (strip d) ∧ ∀ r H', Same H H' → Dp K H' (.ref r) (strip d) → Q (.ref r) H'
theorem ok_asw (T : Txt K mg A) : FnOk P w K mg base CX0 2 A.a_as_wish A.d_as_wish P_as_wish (spAsW K) := by
  have G_as_moment : FnOk P w K mg base CX0 1 A.a_as_moment A.d_as_moment P_as_moment (spAsM K) := ok_asm T
  refine T.f_as_wish.ok sc_as_wish (fun vs H Q E h => ?_) (fun cdv A' outer s H vs Q E hr h => ?_)
  · obtain ⟨x, d, kvs, rfl, _⟩ := h
    rfl
  · obtain ⟨x, d, kvs, rfl, hx, hm, k⟩ := h
    refine ⟨_, (pss_cons (ps_asg (pv 0) (Own.pg_lt (by rfl) (pgs_cons (pg_name (i := 1) sc_as_wish.nd rfl (Or.inl rfl)) (pgs_cons (pg_name (i := 2) sc_as_wish.nd rfl (Or.inl rfl)) (pgs_cons (pg_name (i := 3) sc_as_wish.nd rfl (Or.inl rfl)) pgs_nil)))))
 (pss_one (ps_ret (pe_tup (pa_cons (pe_call G_as_moment (hr.mono (by omega)) (by rfl) T.g_as_moment T.f_as_moment.kp T.b_as_moment .nil pass0 (pa_cons (pv 1) pa_nil)) (pa_cons (pe_call G_as_moment (hr.mono (by omega)) (by rfl) T.g_as_moment T.f_as_moment.kp T.b_as_moment .nil pass0 (pa_cons (pv 2) pa_nil)) (pa_cons (pv 3) pa_nil))))))), ?_⟩
    generalize hz : strip d = z at hm k
    cases hm with
    | @mk p q m ha hb =>
      obtain ⟨a, u, v, t, d1, d2, d3, rfl, hq, h1, h2, h3, e1, e2, e3, hL⟩ := dp3 hx hz
      obtain ⟨rfl, rfl⟩ := (dp_atom h3).2 _ e3
      subst e1
      subst e2
      refine ⟨_, rfl, un3 hq ?_⟩
      refine ⟨_, rfl, u, d1, kvs, rfl, h1, ha, fun r1 H1 s1 D1 => ⟨_, rfl, v, d2, kvs, rfl, dpSame s1 h2, hb, fun r2 H2 s2 D2 => ⟨_, rfl, by show 3 ≤ sizeLine; decide, fun p hp => ?_⟩⟩⟩
      have s3 := (s1.trans s2).trans (Same.new hp (o := .tup [r1, r2, .int m]))
      exact k p _ s3 (.tup (SqT.of upd_same) (.cons (dpSame (s2.trans (Same.new hp)) D1) (.cons (dpSame (Same.new hp) D2) (.cons (.int m) .nil))))
end
end K5
set_option Elab.async false
set_option linter.all false
set_option maxRecDepth 100000
set_option maxHeartbeats 4000000
namespace K5
open PySem L2
local macro_rules | `(tactic| walk_at "rd1") => `(tactic| first
  | refine ⟨_, _, rfl, rfl, ?_⟩
  | refine ⟨_, _, _, _, rfl, rfl, SqL.of (by assumption), rfl, ?_⟩
  | refine ⟨_, _, _, _, rfl, rfl, (by assumption), rfl, ?_⟩
  | refine .inl ⟨_, rfl, ?_⟩
  | refine ⟨_, rfl, ?_⟩
  | refine ⟨(by unfold CMul; omega), ?_⟩
  | refine ⟨(by unfold CPow; omega), ?_⟩
  | refine ⟨(by (try dsimp only); omega), ?_⟩
  | refine ⟨(by unfold CDiv; omega), ?_⟩
  | fail "rd1")
local macro_rules | `(tactic| walk_at "rd") => `(tactic| repeat' (walk_at "rd1"))
section
variable {P : Program} {w : World} {K : PySem.W.Frag} {mg : Str → Option Value} {base : Heap} {A : Ad}
def kvF (ns : List Str) (f : Str → V) : List (Key × V) := ns.map fun n => (.inr n, f n)
theorem kvF_keys (ns : List Str) (f : Str → V) : (kvF ns f).map (·.1) = ns.map Sum.inr := by simp [kvF]
theorem kvF_len (ns : List Str) (f : Str → V) : (kvF ns f).length = ns.length := by simp [kvF]
theorem inr_nd {ns : List Str} (h : ns.Nodup) : (ns.map (Sum.inr : Str → Key)).Nodup := List.pairwise_map.mpr (h.imp fun n e => n (Sum.inr.inj e))
theorem kvF_snoc (ns : List Str) (n : Str) (f : Str → V) : kvF (ns ++ [n]) f = kvF ns f ++ [(.inr n, f n)] := by simp [kvF]
theorem kvF_at {ns : List Str} {f : Str → V} {i : Nat} {k : Key} {v : V} (h : (kvF ns f)[i]? = some (k, v)) : ∃ hi : i < ns.length, k = .inr ns[i] ∧ v = f ns[i] := by
  have hi : i < ns.length := by
    have := (List.getElem?_eq_some_iff.mp h).1
    rwa [kvF_len] at this
  unfold kvF at h
  rw [List.getElem?_map, List.getElem?_eq_getElem hi] at h
  cases h
  exact ⟨hi, rfl, rfl⟩
theorem kvF_val {ns : List Str} {f : Str → V} {n : Str} (nd : ns.Nodup) (m : n ∈ ns) : valV (kvF ns f) (.inr n) = some (f n) := by
  obtain ⟨i, hi, e⟩ := List.getElem_of_mem m
  refine valV_at (i := i) (by rw [kvF_keys]; exact inr_nd nd) ?_
  unfold kvF
  rw [List.getElem?_map, List.getElem?_eq_getElem hi, e]; rfl
structure Pr2 (K : PySem.W.Frag) (H : Hp) (ns : List Str) (f g : Str → V) (kvs : List (Key × V)) : Prop where
  keys : kvs.map (·.1) = ns.map Sum.inr
  at_ : ∀ (i : Nat) (n : Str), ns[i]? = some n → ∃ a : Addr, kvs[i]? = some (.inr n, .ref a) ∧ SqT K H a [f n, g n]
theorem Pr2.up {H H' : Hp} {ns : List Str} {f g : Str → V} {kvs : List (Key × V)} (h : Pr2 K H ns f g kvs) (s : Same H H') : Pr2 K H' ns f g kvs :=
  ⟨h.keys, fun i n e => by obtain ⟨a, e1, e2⟩ := h.at_ i n e; exact ⟨a, e1, stUp e2 s⟩⟩
theorem Pr2.er {H : Hp} {p : Addr} {u : HO} {ns : List Str} {f g : Str → V} {kvs : List (Key × V)} (h : Pr2 K H ns f g kvs) (hp : H p = some u) (hu : NoTup u) : Pr2 K (er H p) ns f g kvs :=
  ⟨h.keys, fun i n e => by obtain ⟨a, e1, e2⟩ := h.at_ i n e; exact ⟨a, e1, tupEr hp hu e2⟩⟩
theorem Pr2.set {H : Hp} {p : Addr} {u o : HO} {ns : List Str} {f g : Str → V} {kvs : List (Key × V)} (h : Pr2 K H ns f g kvs) (hp : H p = some u) (hu : NoTup u) : Pr2 K (upd H p o) ns f g kvs :=
  ⟨h.keys, fun i n e => by obtain ⟨a, e1, e2⟩ := h.at_ i n e; exact ⟨a, e1, tupSet hp hu e2⟩⟩
theorem Pr2.len {H : Hp} {ns : List Str} {f g : Str → V} {kvs : List (Key × V)} (h : Pr2 K H ns f g kvs) : kvs.length = ns.length := by
  have := congrArg List.length h.keys
  rwa [List.length_map, List.length_map] at this
theorem Pr2.nil {H : Hp} {f g : Str → V} : Pr2 K H [] f g [] := ⟨rfl, fun i n e => by simp at e⟩
theorem Pr2.snoc {H : Hp} {ns : List Str} {f g : Str → V} {kvs : List (Key × V)} {n : Str} {a : Addr} (h : Pr2 K H ns f g kvs) (ha : SqT K H a [f n, g n]) : Pr2 K H (ns ++ [n]) f g (kvs ++ [(.inr n, .ref a)]) := by
  refine ⟨by rw [List.map_append, List.map_append, h.keys]; rfl, fun i m e => ?_⟩
  rcases Nat.lt_or_ge i ns.length with lt | ge
  · rw [List.getElem?_append_left lt] at e
    rw [List.getElem?_append_left (by rw [h.len]; exact lt)]
    exact h.at_ i m e
  · rw [List.getElem?_append_right ge] at e
    rw [List.getElem?_append_right (by rw [h.len]; exact ge), h.len]
    cases e0 : i - ns.length with
    | zero => rw [e0] at e; cases e; exact ⟨a, rfl, ha⟩
    | succ j => rw [e0] at e; simp at e
theorem Pr2.get {H : Hp} {ns : List Str} {f g : Str → V} {kvs : List (Key × V)} (h : Pr2 K H ns f g kvs) {i : Nat} {k : Key} {v : V} (e : kvs[i]? = some (k, v)) : ∃ (hi : i < ns.length) (a : Addr), k = .inr ns[i] ∧ v = .ref a ∧ SqT K H a [f ns[i], g ns[i]] := by
  have hi : i < ns.length := by rw [← h.len]; exact (List.getElem?_eq_some_iff.mp e).1
  obtain ⟨a, e1, e2⟩ := h.at_ i ns[i] (List.getElem?_eq_getElem hi)
  rw [e] at e1
  cases e1
  exact ⟨hi, a, rfl, rfl, e2⟩
theorem Pr2.val {H : Hp} {ns : List Str} {f g : Str → V} {kvs : List (Key × V)} (h : Pr2 K H ns f g kvs) (nd : ns.Nodup) {n : Str} (m : n ∈ ns) : ∃ a : Addr, valV kvs (.inr n) = some (.ref a) ∧ SqT K H a [f n, g n] := by
  obtain ⟨i, hi, e⟩ := List.getElem_of_mem m
  obtain ⟨a, e1, e2⟩ := h.at_ i n (by rw [List.getElem?_eq_getElem hi, e])
  exact ⟨a, valV_at (by rw [h.keys]; exact inr_nd nd) e1, e2⟩
theorem Pr2.congr {H : Hp} {ns : List Str} {f g f' g' : Str → V} {kvs : List (Key × V)} (h : Pr2 K H ns f g kvs) (e : ∀ n ∈ ns, f n = f' n ∧ g n = g' n) : Pr2 K H ns f' g' kvs :=
  ⟨h.keys, fun i n q => by
    obtain ⟨a, e1, e2⟩ := h.at_ i n q
    obtain ⟨x, y⟩ := e n (List.mem_of_getElem? q)
    exact ⟨a, e1, by rw [← x, ← y]; exact e2⟩⟩
/-- neither a list nor a tuple -/
structure NoSq (u : HO) : Prop where
  t : NoTup u
  l : ∀ xs, u ≠ .lst xs
  f : ∀ o xs, u ≠ .frz o (.lst xs)
theorem noSq_dK (kvs : List (Key × V)) : NoSq (.dK kvs) := ⟨noTup_dK _, fun _ z => (nomatch z), fun _ _ z => (nomatch z)⟩
theorem sxEr {H : Hp} {p a : Addr} {u : HO} {xs : List V} (hp : H p = some u) (hu : NoSq u) (h : SqX K H a xs) : SqX K (er H p) a xs := by
  rcases h with h | h
  · refine .inl ?_
    rcases h with (e | ⟨o, e⟩) | k
    · exact .inl (.inl (er_of (fun z => by rw [z, hp] at e; exact hu.l _ (Option.some.inj e)) e))
    · exact .inl (.inr ⟨o, er_of (fun z => by rw [z, hp] at e; exact hu.f _ _ (Option.some.inj e)) e⟩)
    · exact .inr k
  · exact .inr (tupEr hp hu.t h)
theorem sxSet {H : Hp} {p a : Addr} {u o : HO} {xs : List V} (hp : H p = some u) (hu : NoSq u) (h : SqX K H a xs) : SqX K (upd H p o) a xs := by
  refine sxUp (sxEr hp hu h) fun b v e => ?_
  have q := er_some e
  rw [upd_ne q.1]; exact q.2
structure PrX (K : PySem.W.Frag) (H : Hp) (ns : List Str) (f g : Str → V) (kvs : List (Key × V)) : Prop where
  keys : kvs.map (·.1) = ns.map Sum.inr
  at_ : ∀ (i : Nat) (n : Str), ns[i]? = some n → ∃ a : Addr, kvs[i]? = some (.inr n, .ref a) ∧ SqX K H a [f n, g n]
theorem PrX.up {H H' : Hp} {ns : List Str} {f g : Str → V} {kvs : List (Key × V)} (h : PrX K H ns f g kvs) (s : Same H H') : PrX K H' ns f g kvs :=
  ⟨h.keys, fun i n e => by obtain ⟨a, e1, e2⟩ := h.at_ i n e; exact ⟨a, e1, sxUp e2 s⟩⟩
theorem PrX.er {H : Hp} {p : Addr} {u : HO} {ns : List Str} {f g : Str → V} {kvs : List (Key × V)} (h : PrX K H ns f g kvs) (hp : H p = some u) (hu : NoSq u) : PrX K (er H p) ns f g kvs :=
  ⟨h.keys, fun i n e => by obtain ⟨a, e1, e2⟩ := h.at_ i n e; exact ⟨a, e1, sxEr hp hu e2⟩⟩
theorem PrX.set {H : Hp} {p : Addr} {u o : HO} {ns : List Str} {f g : Str → V} {kvs : List (Key × V)} (h : PrX K H ns f g kvs) (hp : H p = some u) (hu : NoSq u) : PrX K (upd H p o) ns f g kvs :=
  ⟨h.keys, fun i n e => by obtain ⟨a, e1, e2⟩ := h.at_ i n e; exact ⟨a, e1, sxSet hp hu e2⟩⟩
theorem PrX.len {H : Hp} {ns : List Str} {f g : Str → V} {kvs : List (Key × V)} (h : PrX K H ns f g kvs) : kvs.length = ns.length := by
  have := congrArg List.length h.keys
  rwa [List.length_map, List.length_map] at this
theorem PrX.nil {H : Hp} {f g : Str → V} : PrX K H [] f g [] := ⟨rfl, fun i n e => by simp at e⟩
theorem PrX.snoc {H : Hp} {ns : List Str} {f g : Str → V} {kvs : List (Key × V)} {n : Str} {a : Addr} (h : PrX K H ns f g kvs) (ha : SqX K H a [f n, g n]) : PrX K H (ns ++ [n]) f g (kvs ++ [(.inr n, .ref a)]) := by
  refine ⟨by rw [List.map_append, List.map_append, h.keys]; rfl, fun i m e => ?_⟩
  rcases Nat.lt_or_ge i ns.length with lt | ge
  · rw [List.getElem?_append_left lt] at e
    rw [List.getElem?_append_left (by rw [h.len]; exact lt)]
    exact h.at_ i m e
  · rw [List.getElem?_append_right ge] at e
    rw [List.getElem?_append_right (by rw [h.len]; exact ge), h.len]
    cases e0 : i - ns.length with
    | zero => rw [e0] at e; cases e; exact ⟨a, rfl, ha⟩
    | succ j => rw [e0] at e; simp at e
theorem PrX.get {H : Hp} {ns : List Str} {f g : Str → V} {kvs : List (Key × V)} (h : PrX K H ns f g kvs) {i : Nat} {k : Key} {v : V} (e : kvs[i]? = some (k, v)) : ∃ (hi : i < ns.length) (a : Addr), k = .inr ns[i] ∧ v = .ref a ∧ SqX K H a [f ns[i], g ns[i]] := by
  have hi : i < ns.length := by rw [← h.len]; exact (List.getElem?_eq_some_iff.mp e).1
  obtain ⟨a, e1, e2⟩ := h.at_ i ns[i] (List.getElem?_eq_getElem hi)
  rw [e] at e1
  cases e1
  exact ⟨hi, a, rfl, rfl, e2⟩
theorem PrX.val {H : Hp} {ns : List Str} {f g : Str → V} {kvs : List (Key × V)} (h : PrX K H ns f g kvs) (nd : ns.Nodup) {n : Str} (m : n ∈ ns) : ∃ a : Addr, valV kvs (.inr n) = some (.ref a) ∧ SqX K H a [f n, g n] := by
  obtain ⟨i, hi, e⟩ := List.getElem_of_mem m
  obtain ⟨a, e1, e2⟩ := h.at_ i n (by rw [List.getElem?_eq_getElem hi, e])
  exact ⟨a, valV_at (by rw [h.keys]; exact inr_nd nd) e1, e2⟩
theorem PrX.congr {H : Hp} {ns : List Str} {f g f' g' : Str → V} {kvs : List (Key × V)} (h : PrX K H ns f g kvs) (e : ∀ n ∈ ns, f n = f' n ∧ g n = g' n) : PrX K H ns f' g' kvs :=
  ⟨h.keys, fun i n q => by
    obtain ⟨a, e1, e2⟩ := h.at_ i n q
    obtain ⟨x, y⟩ := e n (List.mem_of_getElem? q)
    exact ⟨a, e1, by rw [← x, ← y]; exact e2⟩⟩
theorem Pr2.x {H : Hp} {ns : List Str} {f g : Str → V} {kvs : List (Key × V)} (h : Pr2 K H ns f g kvs) : PrX K H ns f g kvs := ⟨h.keys, fun i n e => by obtain ⟨a, e1, e2⟩ := h.at_ i n e; exact ⟨a, e1, .inr e2⟩⟩
theorem dish_fnW {E : Hp} {p : Addr} {ks : List Str} {kvs : List (Key × V)} {w : Int} (h : DishD K E p ks kvs w) (nd : ks.Nodup) :
    ∃ lo hi : Str → Int, Pr2 K E ks (fun n => .int (lo n)) (fun n => .int (hi n)) kvs ∧ ∀ n ∈ ks, (1 ≤ lo n ∧ lo n ≤ hi n) ∧ hi n ≤ 100000 ∧ lo n ≤ 6 ∧ hi n < lo n + w := by
  have hl : kvs.length = ks.length := by have := congrArg List.length h.keys; rwa [List.length_map, List.length_map] at this
  have ex : ∀ n : Str, ∃ q : Int × Int, ∀ i : Nat, ks[i]? = some n → (∃ a : Addr, kvs[i]? = some (.inr n, .ref a) ∧ SqT K E a [.int q.1, .int q.2]) ∧ (1 ≤ q.1 ∧ q.1 ≤ q.2) ∧ q.2 ≤ 100000 ∧ q.1 ≤ 6 ∧ q.2 < q.1 + w := fun n => by
    by_cases m : n ∈ ks
    · obtain ⟨j, hj, ej⟩ := List.getElem_of_mem m
      have hj2 : j < kvs.length := by omega
      have ek : (kvs.map (·.1))[j]? = some (.inr n) := by rw [h.keys, List.getElem?_map, List.getElem?_eq_getElem hj, ej]; rfl
      obtain ⟨⟨k, v⟩, e1, e2⟩ : ∃ kv, kvs[j]? = some kv ∧ kv.1 = .inr n := by
        rw [List.getElem?_map, List.getElem?_eq_getElem hj2] at ek
        exact ⟨_, List.getElem?_eq_getElem hj2, Option.some.inj ek⟩
      subst e2
      obtain ⟨b, l, u, e3, e4, e5, e6, e7⟩ := h.vals j _ _ e1
      subst e3
      refine ⟨(l, u), fun i hi => ?_⟩
      have : i = j := by
        obtain ⟨hi1, hi2⟩ := List.getElem?_eq_some_iff.mp hi
        exact (List.getElem_inj nd).mp (hi2.trans ej.symm)
      subst this
      exact ⟨⟨b, e1, e4⟩, ⟨e5, e6⟩, e7⟩
    · exact ⟨(0, 0), fun i hi => absurd (List.mem_of_getElem? hi) m⟩
  refine ⟨fun n => (ex n).choose.1, fun n => (ex n).choose.2, ⟨h.keys, fun i n e => ((ex n).choose_spec i e).1⟩, fun n m => ?_⟩
  obtain ⟨j, hj, ej⟩ := List.getElem_of_mem m
  exact ((ex n).choose_spec j (by rw [List.getElem?_eq_getElem hj, ej])).2
theorem sle_of_rising : ∀ {p : Str} {l : List Str}, PyProof.Rows.risingS p l = true → (p :: l).Pairwise sle
  | _, [], _ => List.pairwise_singleton ..
  | p, x :: r, h => by
    unfold PyProof.Rows.risingS at h
    rw [Bool.and_eq_true] at h
    have ih := sle_of_rising h.2
    have hx : sle p x := fun z => by
      have e : PySem.Spec.ltCps x.cps.toList p.cps.toList = true := by rw [PyProof.Rows.ltCps_eq]; exact decide_eq_true z
      rw [e] at h; cases h.1
    refine List.pairwise_cons.mpr ⟨fun y hy => ?_, ih⟩
    rcases List.mem_cons.mp hy with e | hy
    · rw [e]; exact hx
    · exact sle_trans hx ((List.pairwise_cons.mp ih).1 y hy)
theorem sle_sorted {l : List Str} (h : PyProof.Rows.sortedS l = true) : l.Pairwise sle := by
  cases l with
  | nil => exact List.Pairwise.nil
  | cons x r => exact sle_of_rising h
theorem sle_anti {x y : Str} (a : sle x y) (b : sle y x) : x = y := by
  obtain ⟨x⟩ := x
  obtain ⟨y⟩ := y
  have e : x.toList = y.toList := List.le_antisymm (List.not_lt.mp a) (List.not_lt.mp b)
  rw [Array.toList_inj.mp e]
theorem asc_eq {xs ys : List Str} (p : xs.Perm ys) (hx : PyProof.Rows.sortedS xs = true) (hy : ys.Pairwise sle) : xs = ys :=
  p.eq_of_pairwise (fun _ _ _ _ a b => sle_anti a b) (sle_sorted hx) hy
theorem putF_len (f : Str) (v : V) : ∀ fs : List (Str × V), (putF f v fs).length ≤ fs.length + 1
  | [] => Nat.le_refl _
  | (g, x) :: r => by
    unfold putF
    by_cases e : g = f
    · rw [if_pos e]; exact Nat.le_succ _
    · rw [if_neg e]; exact Nat.succ_le_succ (putF_len f v r)
theorem noTup_ins (C dx : Addr) (fs : List (Str × V)) : NoTup (.ins C dx fs) := ⟨fun _ z => (nomatch z), fun _ _ z => (nomatch z)⟩
theorem flds3 (x y z : V) : putF "places" z (putF "wished" y (putF "bounds" x [])) = ([("bounds", x), ("wished", y), ("places", z)] : List (Str × V)) := by
  have h1 : putF "wished" y [(("bounds" : Str), x)] = ([("bounds", x), ("wished", y)] : List (Str × V)) := by
    show (if ("bounds" : Str) = "wished" then _ else _) = _
    rw [if_neg (by decide +kernel)]; rfl
  show putF "places" z (putF "wished" y [(("bounds" : Str), x)]) = _
  rw [h1]
  show (if ("bounds" : Str) = "places" then _ else _) = _
  rw [if_neg (by decide +kernel)]
  show _ :: (if ("wished" : Str) = "places" then _ else _) = _
  rw [if_neg (by decide +kernel)]; rfl
end
end K5
set_option Elab.async false
set_option linter.all false
set_option maxRecDepth 100000
set_option maxHeartbeats 4000000
namespace K5
open PySem L2
local macro_rules | `(tactic| walk_at "rd1") => `(tactic| first
  | refine ⟨_, _, rfl, rfl, ?_⟩
  | refine ⟨_, _, _, _, rfl, rfl, SqL.of (by assumption), rfl, ?_⟩
  | refine ⟨_, _, _, _, rfl, rfl, (by assumption), rfl, ?_⟩
  | refine .inl ⟨_, rfl, ?_⟩
  | refine ⟨_, rfl, ?_⟩
  | refine ⟨(by unfold CMul; omega), ?_⟩
  | refine ⟨(by unfold CPow; omega), ?_⟩
  | refine ⟨(by (try dsimp only); omega), ?_⟩
  | refine ⟨(by unfold CDiv; omega), ?_⟩
  | fail "rd1")
local macro_rules | `(tactic| walk_at "rd") => `(tactic| repeat' (walk_at "rd1"))
section
variable {P : Program} {w : World} {K : PySem.W.Frag} {mg : Str → Option Value} {base : Heap} {A : Ad}
structure Grow (K : PySem.W.Frag) (p : Addr) (H H' : Hp) (ds : List PyData) : Prop where
  ex : ∃ vs, H' p = some (.lst vs) ∧ DpAll K (er H' p) vs ds
  same : Same H (er H' p)
theorem Grow.start {p : Addr} {H : Hp} (hp : H p = none) : Grow K p H (upd H p (.lst [])) [] :=
  ⟨⟨[], upd_same, .nil⟩, fun b o e => by rw [er_upd]; exact er_of (ne_of_none e hp) e⟩
theorem Grow.up {p : Addr} {H H' H2 : Hp} {ds : List PyData} (g : Grow K p H H' ds) (s : Same H' H2) : Grow K p H H2 ds := by
  obtain ⟨vs, h1, h2⟩ := g.ex
  exact ⟨⟨vs, s _ _ h1, dpAllSame (er_mono s) h2⟩, g.same.trans (er_mono s)⟩
theorem dpAllApp {H : Hp} : ∀ {vs : List V} {ds : List PyData} {v : V} {d : PyData}, DpAll K H vs ds → Dp K H v d → DpAll K H (vs ++ [v]) (ds ++ [d])
  | _, _, _, _, .nil, h => .cons h .nil
  | _, _, _, _, .cons a b, h => .cons a (dpAllApp b h)
theorem Grow.app {p : Addr} {H H' : Hp} {ds : List PyData} {vs : List V} {v : V} {d : PyData} (g : Grow K p H H' ds) (hp : H' p = some (.lst vs)) (hv : Dp K (er H' p) v d) : Grow K p H (upd H' p (.lst (vs ++ [v]))) (ds ++ [d]) := by
  obtain ⟨vs', h1, h2⟩ := g.ex
  rw [hp] at h1
  cases h1
  exact ⟨⟨_, upd_same, by rw [er_upd]; exact dpAllApp h2 hv⟩, by rw [er_upd]; exact g.same⟩
theorem Grow.dp {p : Addr} {H H' : Hp} {ds : List PyData} (g : Grow K p H H' ds) : Dp K H' (.ref p) (.list ds) := by
  obtain ⟨vs, h1, h2⟩ := g.ex
  exact .lst (SqL.of h1) (dpAllSame (er_same _ _) h2)
/-- a dict of dishes: each key a name, each value a list or a tuple of bounds -/
structure DOk (K : PySem.W.Frag) (H : Hp) (kvs : List (Key × V)) : Prop where
  nd : (kvs.map (·.1)).Nodup
  each : ∀ (i : Nat) (k : Key) (v : V), kvs[i]? = some (k, v) → ∃ (s : Str) (a : Addr) (l m : Int), k = .inr s ∧ Nm s ∧ PyData.strOk s = true ∧ v = .ref a ∧ SqX K H a [.int l, .int m] ∧ 1 ≤ l ∧ l ≤ m
def spChkD (K : PySem.W.Frag) : Sp := fun vs H Q _ => ∃ (dd : Addr) (kvs : List (Key × V)), vs = [.ref dd] ∧ H dd = some (.dK kvs) ∧ DOk K (er H dd) kvs ∧ ∀ H', Same H H' → Q .non H'
def spChkW (K : PySem.W.Frag) : Sp := fun vs H Q _ => ∃ (a dd : Addr) (xs : List V) (ds : List PyData) (kvs : List (Key × V)), vs = [.ref a, .ref dd] ∧ SqX K H a xs ∧ DpAll K H xs ds ∧ (∀ d ∈ ds, Wsh kvs (strip d)) ∧ Rd H dd (.dK kvs) ∧ ∀ H', Same H H' → Q .non H'
def spChkS (K : PySem.W.Frag) : Sp := fun vs H Q _ => ∃ (a dd : Addr) (xs : List V) (ds : List PyData) (kvs : List (Key × V)), vs = [.ref a, .ref dd] ∧ SqX K H a xs ∧ DpAll K H xs ds ∧ (∀ d ∈ ds, Stn kvs (strip d)) ∧ Rd H dd (.dK kvs) ∧ ∀ H', Same H H' → Q .non H'
theorem dpX {H : Hp} {a : Addr} {xs : List V} {ds : List PyData} (h : SqX K H a xs) (hA : DpAll K H xs ds) : ∃ d, Dp K H (.ref a) d ∧ isL d = true :=
  h.elim (fun q => ⟨_, .lst q hA, rfl⟩) (fun q => ⟨_, .tup q hA, rfl⟩)
theorem ok_chkd (T : Txt K mg A) : FnOk P w K mg base CX0 3 A.a_check_dishes A.d_check_dishes P_check_dishes (spChkD K) := by
  have G_is_name : FnOk P w K mg base CX0 1 A.a_is_name A.d_is_name P_is_name spIsName := ok_isname T
  have G_is_bounds : FnOk P w K mg base CX0 2 A.a_is_bounds A.d_is_bounds P_is_bounds (spBounds K) := ok_bounds T
  refine T.f_check_dishes.ok sc_check_dishes (fun vs H Q E h => ?_) (fun cdv A' outer s H vs Q E hr h => ?_)
  · obtain ⟨dd, kvs, rfl, _⟩ := h
    rfl
  · obtain ⟨dd, kvs, rfl, hd, hO, k⟩ := h
    refine ⟨_, (pss_one (ps_lock (ps_for PassesOwn.never rfl (pi_keys (pv 0)) (pg_name (i := 1) sc_check_dishes.nd rfl (Or.inl rfl))
 (pss_one (ps_if (PW.pt (pw_or (pt_not (pt_val (pe_call G_is_name (hr.mono (by omega)) (by rfl) T.g_is_name T.f_is_name.kp T.b_is_name .nil pass0 (pa_cons (pv 1) pa_nil)))) (pw_or1 (pt_not (pt_val (pe_call G_is_bounds (hr.mono (by omega)) (by rfl) T.g_is_bounds T.f_is_bounds.kp T.b_is_bounds .nil pass0 (pa_cons (pe_dget (hu_of hr) (pv 0) (pv 1) (fun _ _ => rfl)) pa_nil)))))))
 (pss_one ps_never)
 pss_nil))))), ?_⟩
    refine ⟨dd, _, hd, trivial, fun od => ?_⟩
    have sE : Same (er H dd) (upd H dd (.frz od (.dK kvs))) := fun b u e => by rw [upd_ne (er_some e).1]; exact (er_some e).2
    refine ⟨_, rfl, dd, od, rfl, .inl ⟨kvs, upd_same, for_it walk_keys (fun i σ' H' => ∃ x, σ' = [some (.ref dd), x] ∧ Same (upd H dd (.frz od (.dK kvs))) H') ⟨none, rfl, Same.refl _⟩ (fun i σ' H' _ ⟨_, _, s⟩ => s _ _ upd_same) ?_ ?_⟩⟩
    · rintro i x σ' H' H'' hi ⟨y, rfl, s1⟩ ⟨rfl, key, v, hk, rfl⟩
      obtain ⟨z, a, l, m, rfl, hN, _, rfl, ha, hb1, hb2⟩ := hO.each i _ _ hk
      refine ⟨_, rfl, z, rfl, hN, fun H2 s2 => ⟨_, rfl, iteF ?_⟩⟩
      have hd2 : H2 dd = some (.frz od (.dK kvs)) := s2 _ _ (s1 _ _ upd_same)
      have ha2 := sxUp ha (sE.trans (s1.trans s2))
      refine ⟨_, rfl, _, rfl, dd, .ref a, rfl, .inl ⟨kvs, .inr z, .inr ⟨od, hd2⟩, rfl, (valV_at hO.nd hk).symm⟩, a, l, m, rfl, ha2, hb1, hb2, fun H3 s3 => ⟨_, rfl, iteF ?_⟩⟩
      exact ⟨_, rfl, (s1.trans s2).trans s3⟩
    · rintro σ' H' ⟨x, rfl, s1⟩
      refine ⟨s1 _ _ upd_same, k _ fun b u e => ?_⟩
      by_cases hb : b = dd
      · subst hb
        rw [hd] at e
        cases e
        exact upd_same
      · rw [upd_ne hb]
        exact s1 _ _ (by rw [upd_ne hb]; exact e)
theorem ok_chkw (T : Txt K mg A) : FnOk P w K mg base CX0 4 A.a_check_wishes A.d_check_wishes P_check_wishes (spChkW K) := by
  have G_is_list : FnOk P w K mg base CX0 1 A.a_is_list A.d_is_list P_is_list (spIsList K) := ok_islist T
  have G_is_wish : FnOk P w K mg base CX0 3 A.a_is_wish A.d_is_wish P_is_wish (spWish K) := ok_wish T
  refine T.f_check_wishes.ok sc_check_wishes (fun vs H Q E h => ?_) (fun cdv A' outer s H vs Q E hr h => ?_)
  · obtain ⟨a, dd, xs, ds, kvs, rfl, _⟩ := h
    rfl
  · obtain ⟨a, dd, xs, ds, kvs, rfl, ha, hA, hW, hd, k⟩ := h
    refine ⟨_, (pss_cons (ps_if (pt_not (pt_val (pe_call G_is_list (hr.mono (by omega)) (by rfl) T.g_is_list T.f_is_list.kp T.b_is_list .nil pass0 (pa_cons (pv 0) pa_nil))))
 (pss_one ps_never)
 pss_nil)
 (pss_one (ps_for PassesOwn.never rfl (EnT.pi_or (pi_enum (by rfl) T.enumerate (pa_cons (pv 0) pa_nil)) (EnT.pi_enumT (by rfl) T.enumerate (pa_cons (pv 0) pa_nil))) (pg_tup (by rfl) (pgs_cons (pg_name (i := 2) sc_check_wishes.nd rfl (Or.inl rfl)) (pgs_cons (pg_name (i := 3) sc_check_wishes.nd rfl (Or.inl rfl)) pgs_nil)))
 (pss_one (ps_if (pt_not (pt_val (pe_call G_is_wish (hr.mono (by omega)) (by rfl) T.g_is_wish T.f_is_wish.kp T.b_is_wish .nil pass0 (pa_cons (pv 3) (pa_cons (pv 1) pa_nil)))))
 (pss_one ps_never)
 pss_nil))))), ?_⟩
    obtain ⟨d, hD, hL⟩ := dpX ha hA
    refine ⟨_, rfl, _, d, rfl, hD, fun H1 s1 => ⟨_, rfl, ?_⟩⟩
    rw [hL]
    refine iteF ?_
    refine enum_or ha s1 rfl fun J G wk hG => for_it wk (fun i σ' H' => ∃ x y, σ' = [some (.ref a), some (.ref dd), x, y] ∧ Same H H') ⟨none, none, rfl, s1⟩ (fun i σ' H' _ ⟨_, _, _, s⟩ => hG H' s) ?_ ?_
    · rintro i x σ' H' H'' hi ⟨_, _, rfl, s2⟩ ⟨Tt, u, v, rfl, hT, rfl, hu, hv⟩
      have eu : u = .int (i : Nat) := (Option.some.inj hu).symm
      subst eu
      obtain ⟨d', hd1, hd2⟩ := dpGet hA hv
      have s3 : Same H (upd H' Tt (.tup [.int (i : Nat), v])) := s2.trans (Same.new hT)
      refine ⟨Tt, _, rfl, SqT.of upd_same, rfl, _, _, rfl, _, _, rfl, rfl, ?_⟩
      refine ⟨_, rfl, _, rfl, v, dd, d', kvs, rfl, dpSame s3 hd2, hW d' (List.mem_of_getElem? hd1), rdUp hd s3, fun H4 s4 => ⟨_, rfl, iteF ?_⟩⟩
      exact ⟨_, _, rfl, s3.trans s4⟩
    · rintro σ' H' ⟨_, _, rfl, s2⟩
      exact k _ s2
theorem ok_chks (T : Txt K mg A) : FnOk P w K mg base CX0 3 A.a_check_stations A.d_check_stations P_check_stations (spChkS K) := by
  have G_is_list : FnOk P w K mg base CX0 1 A.a_is_list A.d_is_list P_is_list (spIsList K) := ok_islist T
  have G_is_station : FnOk P w K mg base CX0 2 A.a_is_station A.d_is_station P_is_station (spStation K) := ok_station T
  refine T.f_check_stations.ok sc_check_stations (fun vs H Q E h => ?_) (fun cdv A' outer s H vs Q E hr h => ?_)
  · obtain ⟨a, dd, xs, ds, kvs, rfl, _⟩ := h
    rfl
  · obtain ⟨a, dd, xs, ds, kvs, rfl, ha, hA, hW, hd, k⟩ := h
    refine ⟨_, (pss_cons (ps_if (pt_not (pt_val (pe_call G_is_list (hr.mono (by omega)) (by rfl) T.g_is_list T.f_is_list.kp T.b_is_list .nil pass0 (pa_cons (pv 0) pa_nil))))
 (pss_one ps_never)
 pss_nil)
 (pss_one (ps_for PassesOwn.never rfl (EnT.pi_or (pi_enum (by rfl) T.enumerate (pa_cons (pv 0) pa_nil)) (EnT.pi_enumT (by rfl) T.enumerate (pa_cons (pv 0) pa_nil))) (pg_tup (by rfl) (pgs_cons (pg_name (i := 2) sc_check_stations.nd rfl (Or.inl rfl)) (pgs_cons (pg_name (i := 3) sc_check_stations.nd rfl (Or.inl rfl)) pgs_nil)))
 (pss_one (ps_if (pt_not (pt_val (pe_call G_is_station (hr.mono (by omega)) (by rfl) T.g_is_station T.f_is_station.kp T.b_is_station .nil pass0 (pa_cons (pv 3) (pa_cons (pv 1) pa_nil)))))
 (pss_one ps_never)
 pss_nil))))), ?_⟩
    obtain ⟨d, hD, hL⟩ := dpX ha hA
    refine ⟨_, rfl, _, d, rfl, hD, fun H1 s1 => ⟨_, rfl, ?_⟩⟩
    rw [hL]
    refine iteF ?_
    refine enum_or ha s1 rfl fun J G wk hG => for_it wk (fun i σ' H' => ∃ x y, σ' = [some (.ref a), some (.ref dd), x, y] ∧ Same H H') ⟨none, none, rfl, s1⟩ (fun i σ' H' _ ⟨_, _, _, s⟩ => hG H' s) ?_ ?_
    · rintro i x σ' H' H'' hi ⟨_, _, rfl, s2⟩ ⟨Tt, u, v, rfl, hT, rfl, hu, hv⟩
      have eu : u = .int (i : Nat) := (Option.some.inj hu).symm
      subst eu
      obtain ⟨d', hd1, hd2⟩ := dpGet hA hv
      have s3 : Same H (upd H' Tt (.tup [.int (i : Nat), v])) := s2.trans (Same.new hT)
      refine ⟨Tt, _, rfl, SqT.of upd_same, rfl, _, _, rfl, _, _, rfl, rfl, ?_⟩
      refine ⟨_, rfl, _, rfl, v, dd, d', kvs, rfl, dpSame s3 hd2, hW d' (List.mem_of_getElem? hd1), rdUp hd s3, fun H4 s4 => ⟨_, rfl, iteF ?_⟩⟩
      exact ⟨_, _, rfl, s3.trans s4⟩
    · rintro σ' H' ⟨_, _, rfl, s2⟩
      exact k _ s2
end
end K5
set_option Elab.async false
set_option linter.all false
set_option maxRecDepth 100000
set_option maxHeartbeats 4000000
namespace K5
open PySem L2
local macro_rules | `(tactic| walk_at "rd1") => `(tactic| first
  | refine ⟨_, _, rfl, rfl, ?_⟩
  | refine ⟨_, _, _, _, rfl, rfl, SqL.of (by assumption), rfl, ?_⟩
  | refine ⟨_, _, _, _, rfl, rfl, (by assumption), rfl, ?_⟩
  | refine .inl ⟨_, rfl, ?_⟩
  | refine ⟨_, rfl, ?_⟩
  | refine ⟨(by unfold CMul; omega), ?_⟩
  | refine ⟨(by unfold CPow; omega), ?_⟩
  | refine ⟨(by (try dsimp only); omega), ?_⟩
  | refine ⟨(by unfold CDiv; omega), ?_⟩
  | fail "rd1")
local macro_rules | `(tactic| walk_at "rd") => `(tactic| repeat' (walk_at "rd1"))
section
variable {P : Program} {w : World} {K : PySem.W.Frag} {mg : Str → Option Value} {base : Heap} {A : Ad}
def rTupOf (K : PySem.W.Frag) : List V → Hp → VK → Prop := fun us H Q => ∃ b zs, us = [.ref b] ∧ ((SqL K H b zs ∧ ∀ l, H l = none → Q (.ref l) (upd H l (.tup zs))) ∨ (SqT K H b zs ∧ Q (.ref b) H))
theorem tupOf {X : Cx} {K : PySem.W.Frag} (h : X.K = K) : CallR X (.type "tuple") (rTupOf K) := h ▸ call_tuple_of
mutual
def tp : PyData → Bool
  | .list _ => false
  | .tuple xs => tpAll xs
  | _ => true
def tpAll : List PyData → Bool
  | [] => true
  | d :: ds => tp d && tpAll ds
end
mutual
theorem tp_strip : ∀ d : PyData, tp (strip d) = true
  | .list xs => by simp only [strip, tp]; exact tp_stripAll xs
  | .tuple xs => by simp only [strip, tp]; exact tp_stripAll xs
  | .none => by simp [strip, tp]
  | .bool b => by simp [strip, tp]
  | .int i => by simp [strip, tp]
  | .str s => by simp [strip, tp]
  | .dict kvs => by simp [strip, tp]
theorem tp_stripAll : ∀ ds : List PyData, tpAll (stripAll ds) = true
  | [] => rfl
  | d :: ds => by simp only [stripAll, tpAll, Bool.and_eq_true]; exact ⟨tp_strip d, tp_stripAll ds⟩
end
mutual
theorem dpMov {H H' : Hp} (f : ∀ a xs, SqT K H a xs → SqT K H' a xs) : ∀ {v : V} {d : PyData}, Dp K H v d → tp d = true → Dp K H' v d
  | _, _, .non, _ => .non
  | _, _, .bl b, _ => .bl b
  | _, _, .int i, _ => .int i
  | _, _, .str s, _ => .str s
  | _, _, .lst _ _, e => by simp [tp] at e
  | _, _, .tup h q, e => .tup (f _ _ h) (dpAllMov f q (by simpa [tp] using e))
theorem dpAllMov {H H' : Hp} (f : ∀ a xs, SqT K H a xs → SqT K H' a xs) : ∀ {vs : List V} {ds : List PyData}, DpAll K H vs ds → tpAll ds = true → DpAll K H' vs ds
  | _, _, .nil, _ => .nil
  | _, _, .cons a b, e => by
    simp only [tpAll, Bool.and_eq_true] at e
    exact .cons (dpMov f a e.1) (dpAllMov f b e.2)
end
theorem dpEr {H : Hp} {D : Addr} {u : HO} {v : V} {d : PyData} (hD : H D = some u) (hu : NoTup u) (h : Dp K H v d) (e : tp d = true) : Dp K (er H D) v d := dpMov (fun _ _ => tupEr hD hu) h e
theorem dpAllEr {H : Hp} {D : Addr} {u : HO} {vs : List V} {ds : List PyData} (hD : H D = some u) (hu : NoTup u) (h : DpAll K H vs ds) (e : tpAll ds = true) : DpAll K (er H D) vs ds := dpAllMov (fun _ _ => tupEr hD hu) h e
/-- a meal at p -/
structure MlAt (K : PySem.W.Frag) (C : Addr) (H : Hp) (p : Addr) (ys : List Str) (lo hi : Str → Int) (ds es : List PyData) : Prop where
  ex : ∃ (dx qb qw qp : Addr) (kvs : List (Key × V)) (ws ps : List V), H p = some (.ins C dx [("bounds", .ref qb), ("wished", .ref qw), ("places", .ref qp)]) ∧ H qb = some (.dK kvs) ∧ Pr2 K H ys (fun n => .int (lo n)) (fun n => .int (hi n)) kvs ∧ SqT K H qw ws ∧ DpAll K H ws ds ∧ SqT K H qp ps ∧ DpAll K H ps es
theorem MlAt.up {C : Addr} {H H' : Hp} {p : Addr} {ys : List Str} {lo hi : Str → Int} {ds es : List PyData} (h : MlAt K C H p ys lo hi ds es) (s : Same H H') : MlAt K C H' p ys lo hi ds es := by
  obtain ⟨dx, qb, qw, qp, kvs, ws, ps, h1, h2, h3, h4, h5, h6, h7⟩ := h.ex
  exact ⟨dx, qb, qw, qp, kvs, ws, ps, s _ _ h1, s _ _ h2, h3.up s, stUp h4 s, dpAllSame s h5, stUp h6 s, dpAllSame s h7⟩
/-- H2 keeps all of H' but lists, and dicts that were in H -/
def KeepM (H H' H2 : Hp) : Prop := ∀ b u, H' b = some u → (∀ xs, u ≠ .lst xs) → (∀ kvs, u = .dK kvs → H b = none) → H2 b = some u
theorem KeepM.refl {H H' : Hp} : KeepM H H' H' := fun _ _ e _ _ => e
theorem KeepM.tup {H H' H2 : Hp} (k : KeepM H H' H2) {a : Addr} {xs : List V} (h : SqT K H' a xs) : SqT K H2 a xs := by
  rcases h with (h | ⟨o, h⟩) | h
  · exact .inl (.inl (k _ _ h (fun _ z => nomatch z) (fun _ z => nomatch z)))
  · exact .inl (.inr ⟨o, k _ _ h (fun _ z => nomatch z) (fun _ z => nomatch z)⟩)
  · exact .inr h
theorem Pr2.mov {H H' : Hp} {ns : List Str} {f g : Str → V} {kvs : List (Key × V)} (m : ∀ a xs, SqT K H a xs → SqT K H' a xs) (h : Pr2 K H ns f g kvs) : Pr2 K H' ns f g kvs := ⟨h.keys, fun i n e => by
  obtain ⟨a, e1, e2⟩ := h.at_ i n e
  exact ⟨a, e1, m _ _ e2⟩⟩
def spInit (K : PySem.W.Frag) (C : Addr) : Sp := fun vs H Q _ => ∃ (p dx dd a s0 : Addr) (kvs : List (Key × V)) (ks : List Str) (lo hi : Str → Int) (xs : List V) (ds : List PyData) (zs : List V) (es : List PyData), vs = [.ref p, .ref dd, .ref a, .ref s0] ∧ H p = some (.ins C dx []) ∧
  H dd = some (.dK kvs) ∧ PrX K H ks (fun n => .int (lo n)) (fun n => .int (hi n)) kvs ∧ ks.Nodup ∧ (∀ n ∈ ks, (Nm n ∧ PyData.strOk n = true) ∧ 1 ≤ lo n ∧ lo n ≤ hi n) ∧ ks.length < 64 ∧ SqX K (er H p) a xs ∧ DpAll K (er H p) xs ds ∧ ds.length ≤ 1000 ∧ (∀ d ∈ ds, Wsh kvs (strip d)) ∧ SqX K (er H p) s0 zs ∧ DpAll K (er H p) zs es ∧ es.length ≤ 1000 ∧ (∀ d ∈ es, Stn kvs (strip d)) ∧
  ∀ (H' : Hp) (ys : List Str), (∀ H2, KeepM H H' H2 → MlAt K C H2 p ys lo hi (stripAll ds) (stripAll es)) → ys.Perm ks → PyProof.Rows.sortedS ys = true → Same (er H p) (er H' p) → Q .non H'
theorem ok_init (T : Txt K mg A) : FnOk P w K mg base CX0 5 A.a_Meal___init__ A.d_Meal___init__ P_Meal___init__ (spInit K A.a_Meal) := by
  have G_check_dishes : FnOk P w K mg base CX0 3 A.a_check_dishes A.d_check_dishes P_check_dishes (spChkD K) := ok_chkd T
  have G_check_wishes : FnOk P w K mg base CX0 4 A.a_check_wishes A.d_check_wishes P_check_wishes (spChkW K) := ok_chkw T
  have G_check_stations : FnOk P w K mg base CX0 3 A.a_check_stations A.d_check_stations P_check_stations (spChkS K) := ok_chks T
  have G_as_wish : FnOk P w K mg base CX0 2 A.a_as_wish A.d_as_wish P_as_wish (spAsW K) := ok_asw T
  refine T.f_Meal___init__.ok sc_Meal___init__ (fun vs H Q E h => ?_) (fun cdv A' outer s H vs Q E hr h => ?_)
  · obtain ⟨p, dx, dd, a, s0, kvs, ks, lo, hi, xs, ds, zs, es, rfl, _⟩ := h
    rfl
  · obtain ⟨p, dx, dd, a, s0, kvs, ks, lo, hi, xs, ds, zs, es, rfl, hp, hd, hP, kN, hB, hk64, ha, hA, hlen, hW, hs0, hZ, hzlen, hS, k⟩ := h
    refine ⟨_, PSs.nox (pss_cons (ps_expr (pe_call G_check_dishes (hr.mono (by omega)) (by rfl) T.g_check_dishes T.f_check_dishes.kp T.b_check_dishes .nil pass0 (pa_cons (pv 1) pa_nil)))
 (pss_cons (ps_expr (pe_call G_check_wishes (hr.mono (by omega)) (by rfl) T.g_check_wishes T.f_check_wishes.kp T.b_check_wishes .nil pass0 (pa_cons (pv 2) (pa_cons (pv 1) pa_nil))))
 (pss_cons (ps_expr (pe_call G_check_stations (hr.mono (by omega)) (by rfl) T.g_check_stations T.f_check_stations.kp T.b_check_stations .nil pass0 (pa_cons (pv 3) (pa_cons (pv 1) pa_nil))))
 (pss_cons (ps_fld (pv 0) (pe_dc (own := [("name", 4)]) (g := gName 4) (by rfl) sc_Meal___init__.nd (pi_list (pe_callB (call_sortedD rfl) (by rfl) T.sorted (by decide +kernel) (pa_cons (pv 1) pa_nil))) (blkOk_by (N := N_Meal___init__) (sc := defScope s_Meal___init__) (by decide +kernel)) (fun _ _ _ _ _ => pg_name (i := 4) sc_Meal___init__.nd rfl (Or.inl rfl)) (fun _ _ _ _ _ => pts_nil) (fun _ _ _ _ _ => (pv 4)) (fun _ _ _ _ _ => (pe_callTy (tupOf (K := K) rfl) (by rfl) T.tuple (by decide +kernel) (pa_cons (pe_dget (hu_of hr) (pv 1) (pv 4) (fun _ _ => rfl)) pa_nil)))) rfl)
 (pss_cons (ps_fld (pv 0) (pe_callTy call_tuple_of (by rfl) T.tuple (by decide +kernel) (pa_cons (pe_lc (own := [("wish", 5)]) (g := gName 5) (by rfl) sc_Meal___init__.nd (EnT.pi_or (pi_list (pv 2)) (pi_tup (pv 2))) (blkOk_by (N := N_Meal___init__) (sc := defScope s_Meal___init__) (by decide +kernel)) (fun _ _ _ _ _ => pg_name (i := 5) sc_Meal___init__.nd rfl (Or.inl rfl)) (fun _ _ _ _ _ => pts_nil) (fun _ _ _ _ _ => (pe_call G_as_wish (hr.mono (by omega)) (by rfl) T.g_as_wish T.f_as_wish.kp T.b_as_wish .nil pass0 (pa_cons (pv 5) pa_nil)))) pa_nil)) rfl)
 (pss_one (ps_fld (pv 0) (pe_callTy call_tuple_of (by rfl) T.tuple (by decide +kernel) (pa_cons (pe_lc (own := [("station", 6)]) (g := gName 6) (by rfl) sc_Meal___init__.nd (EnT.pi_or (pi_list (pv 3)) (pi_tup (pv 3))) (blkOk_by (N := N_Meal___init__) (sc := defScope s_Meal___init__) (by decide +kernel)) (fun _ _ _ _ _ => pg_name (i := 6) sc_Meal___init__.nd rfl (Or.inl rfl)) (fun _ _ _ _ _ => pts_nil) (fun _ _ _ _ _ => (pe_callTy (tupOf (K := K) rfl) (by rfl) T.tuple (by decide +kernel) (pa_cons (pv 6) pa_nil)))) pa_nil)) rfl))))))), ?_⟩
    have hks := hP.keys
    have hO : DOk K (er H dd) kvs := ⟨by rw [hks]; exact inr_nd kN, fun i k v e => by
      obtain ⟨hi1, b, rfl, rfl, e2⟩ := hP.get e
      obtain ⟨⟨q1, q2⟩, q3, q4⟩ := hB _ (List.getElem_mem hi1)
      exact ⟨_, b, _, _, rfl, q1, q2, rfl, sxEr hd (noSq_dK _) e2, q3, q4⟩⟩
    have npd : dd ≠ p := ne_of hd hp (fun z => nomatch z)
    refine ⟨_, rfl, dd, kvs, rfl, hd, hO, fun H1 s1 => ?_⟩
    refine ⟨_, rfl, _, rfl, a, dd, xs, ds, kvs, rfl, sxUp ha ((er_same _ _).trans s1), dpAllSame ((er_same _ _).trans s1) hA, hW, .inl (s1 _ _ hd), fun H2 s2 => ?_⟩
    refine ⟨_, rfl, _, rfl, s0, dd, zs, es, kvs, rfl, sxUp hs0 (((er_same _ _).trans s1).trans s2), dpAllSame (((er_same _ _).trans s1).trans s2) hZ, hS, .inl ((s1.trans s2) _ _ hd), fun H3 s3 => ?_⟩
    have S3 : Same H H3 := (s1.trans s2).trans s3
    have hd3 := S3 _ _ hd
    have hp3 := S3 _ _ hp
    -- self.bounds
    refine ⟨_, rfl, dd, kvs, ks, rfl, .inl hd3, hks, hk64, fun ys q hperm hsort hq => ?_⟩
    have yN : ys.Nodup := hperm.nodup_iff.mpr kN
    refine ⟨q, rfl, ⟨_, SqL.of upd_same⟩, fun D hD => fillD walk_list (fun i H' => Same (upd H3 q (.lst (ys.map V.str))) H' ∧ ∃ kk, H' D = some (.dK kk) ∧ Pr2 K H' (ys.take i) (fun n => .int (lo n)) (fun n => .int (hi n)) kk) ⟨Same.new hD, [], upd_same, Pr2.nil⟩ (fun i H' _ h => SqL.of (h.1 _ _ upd_same)) ?_ (fun H4 h4 => ?_)⟩
    · rintro i x H' H'' hi1 ⟨s4, kk, hkk, hkl⟩ ⟨rfl, hx⟩
      obtain ⟨hi1, rfl⟩ := str_at hx
      have hm : ys[i] ∈ ks := hperm.mem_iff.mp (List.getElem_mem hi1)
      obtain ⟨b, hv, hb⟩ := hP.val kN hm
      have S4 : Same H H'' := S3.trans ((Same.new hq).trans s4)
      have hyl : i < 64 := by have := hperm.length_eq; omega
      have hkn : (Sum.inr ys[i] : Key) ∉ kk.map (·.1) := by
        rw [hkl.keys]
        intro m
        obtain ⟨z, hz, ez⟩ := List.mem_map.mp m
        exact not_in_take yN hi1 (by rw [← Sum.inr.inj ez]; exact hz)
      have e1 : ys.take (i + 1) = ys.take i ++ [ys[i]] := by rw [List.take_succ, List.getElem?_eq_getElem hi1]; rfl
      have fin : ∀ r H5, Same H'' H5 → SqT K H5 r [.int (lo ys[i]), .int (hi ys[i])] → Same (upd H3 q (.lst (ys.map V.str))) (upd H5 D (.dK (putK kk (.inr ys[i]) (.ref r)))) ∧ ∃ k2, upd H5 D (.dK (putK kk (.inr ys[i]) (.ref r))) D = some (.dK k2) ∧ Pr2 K (upd H5 D (.dK (putK kk (.inr ys[i]) (.ref r)))) (ys.take (i + 1)) (fun n => .int (lo n)) (fun n => .int (hi n)) k2 := fun r H5 s5 hr5 => by
        refine ⟨fun c u e => by rw [upd_ne (ne_of_none e hD)]; exact s5 _ _ (s4 _ _ e), ?_⟩
        have hk5 := s5 _ _ hkk
        rw [put_new _ _ _ hkn]
        refine ⟨_, upd_same, ?_⟩
        rw [e1]
        exact ((hkl.up s5).set hk5 (noTup_dK _)).snoc (tupSet hk5 (noTup_dK _) hr5)
      have fl : kk.length < sizeLine := by
        rw [hkl.len, List.length_take]
        exact Nat.lt_of_le_of_lt (show min i _ ≤ 64 by omega) (by decide)
      refine ⟨rfl, _, rfl, _, rfl, _, rfl, dd, .ref b, rfl, .inl ⟨kvs, .inr ys[i], .inl (S4 _ _ hd), rfl, hv.symm⟩, b, [.int (lo ys[i]), .int (hi ys[i])], rfl, ?_⟩
      rcases hb with hb | hb
      · exact .inl ⟨sqUp hb S4, fun l nl => ⟨kk, .inr ys[i], rfl, Same.new nl _ _ hkk, fl, fin l _ (Same.new nl) (SqT.of upd_same)⟩⟩
      · exact .inr ⟨stUp hb S4, kk, .inr ys[i], rfl, hkk, fl, fin b _ (Same.refl _) (stUp hb S4)⟩
    · obtain ⟨s4, kk, hkk, hkl⟩ := h4
      rw [List.length_map, List.take_length] at hkl
      have S4 : Same H H4 := S3.trans ((Same.new hq).trans s4)
      have hp4 := S4 _ _ hp
      have nDp : D ≠ p := fun e => by rw [e, hp4] at hkk; cases hkk
      have fD : H D = none := S3.free ((Same.new hq).free hD)
      refine ⟨_, rfl, p, A.a_Meal, dx, _, rfl, hp4, T.cl_M, T.nB, by decide, ?_⟩
      have F4 : Same (er H4 p) (er (upd H4 p (.ins A.a_Meal dx (putF "bounds" (.ref D) []))) p) := by rw [er_upd]; exact Same.refl _
      have E4 : Same (er H p) (er (upd H4 p (.ins A.a_Meal dx (putF "bounds" (.ref D) []))) p) := by rw [er_upd]; exact er_mono S4
      generalize hH5 : upd H4 p (.ins A.a_Meal dx (putF "bounds" (.ref D) [])) = H5 at E4 F4 ⊢
      have hp5 : H5 p = some (.ins A.a_Meal dx (putF "bounds" (.ref D) [])) := by rw [← hH5]; exact upd_same
      have B5 : Same (er H p) H5 := E4.trans (er_same _ _)
      -- self.wished
      refine seq_or ha B5 rfl fun J G wk hG => fun D2 hD2 => lc_it wk (fun i H' => Grow K D2 H5 H' (stripAll (ds.take i))) (Grow.start hD2) (fun i H' _ g => hG H' (B5.trans (g.same.trans (er_same _ _)))) ?_ (fun H6 g => ?_)
      · rintro i x H' H'' hi g ⟨rfl, hx⟩
        obtain ⟨d, hd1, hd2⟩ := dpGet hA hx
        obtain ⟨acc, hac, hAc⟩ := id g.ex
        have hal := dpLen hAc
        rw [stripAll_map, List.length_map] at hal
        have hil : i < ds.length := (List.getElem?_eq_some_iff.mp hd1).1
        have B6 := B5.trans (g.same.trans (er_same _ _))
        refine ⟨rfl, _, rfl, x, d, kvs, rfl, dpSame B6 hd2, hW d (List.mem_of_getElem? hd1), fun r H7 s7 hr7 => ?_⟩
        refine ⟨acc, s7 _ _ hac, Nat.lt_of_le_of_lt (show acc.length ≤ 1000 by rw [hal, List.length_take]; omega) (by decide), ?_⟩
        have e1 : stripAll (ds.take (i + 1)) = stripAll (ds.take i) ++ [strip d] := by rw [stripAll_map, stripAll_map, List.take_succ, hd1, List.map_append]; rfl
        rw [e1]
        exact (g.up s7).app (s7 _ _ hac) (dpEr (s7 _ _ hac) (noTup_lst _) hr7 (tp_strip d))
      · rw [dpLen hA, List.take_length] at g
        obtain ⟨acc, hac, hAc⟩ := id g.ex
        refine ⟨D2, _, rfl, .inl ⟨SqL.of hac, fun t ht => ?_⟩⟩
        have S6 : Same H5 (upd H6 t (.tup acc)) := (g.same.trans (er_same _ _)).trans (Same.new ht)
        have A6 : DpAll K (upd H6 t (.tup acc)) acc (stripAll ds) := dpAllSame ((er_same _ _).trans (Same.new ht)) hAc
        refine ⟨_, rfl, p, A.a_Meal, dx, _, rfl, S6 _ _ hp5, T.cl_M, T.nW, Nat.lt_of_le_of_lt (putF_len _ _ _) (by decide), ?_⟩
        have A7 : DpAll K (er (upd H6 t (.tup acc)) p) acc (stripAll ds) := dpAllEr (S6 _ _ hp5) (noTup_ins _ _ _) A6 (tp_stripAll ds)
        have q7 : SqT K (er (upd H6 t (.tup acc)) p) t acc := tupEr (S6 _ _ hp5) (noTup_ins _ _ _) (SqT.of upd_same)
        have E7 : Same (er H p) (er (upd H6 t (.tup acc)) p) := E4.trans (er_mono S6)
        have F7 : Same (er H4 p) (er (upd H6 t (.tup acc)) p) := F4.trans (er_mono S6)
        generalize upd H6 t (.tup acc) = H7 at A7 q7 E7 F7 ⊢
        have A8 : DpAll K (er (upd H7 p (.ins A.a_Meal dx (putF "wished" (.ref t) (putF "bounds" (.ref D) [])))) p) acc (stripAll ds) := by rw [er_upd]; exact A7
        have q8 : SqT K (er (upd H7 p (.ins A.a_Meal dx (putF "wished" (.ref t) (putF "bounds" (.ref D) [])))) p) t acc := by rw [er_upd]; exact q7
        have E8 : Same (er H p) (er (upd H7 p (.ins A.a_Meal dx (putF "wished" (.ref t) (putF "bounds" (.ref D) [])))) p) := by rw [er_upd]; exact E7
        have F8 : Same (er H4 p) (er (upd H7 p (.ins A.a_Meal dx (putF "wished" (.ref t) (putF "bounds" (.ref D) [])))) p) := by rw [er_upd]; exact F7
        generalize hH8 : upd H7 p (.ins A.a_Meal dx (putF "wished" (.ref t) (putF "bounds" (.ref D) []))) = H8 at A8 q8 E8 F8 ⊢
        have hp8 : H8 p = some (.ins A.a_Meal dx (putF "wished" (.ref t) (putF "bounds" (.ref D) []))) := by rw [← hH8]; exact upd_same
        have B8 : Same (er H p) H8 := E8.trans (er_same _ _)
        -- self.places
        refine seq_or hs0 B8 rfl fun J G wk hG => fun D3 hD3 => lc_it wk (fun i H' => Grow K D3 H8 H' (stripAll (es.take i))) (Grow.start hD3) (fun i H' _ g => hG H' (B8.trans (g.same.trans (er_same _ _)))) ?_ (fun H9 g9 => ?_)
        · rintro i x H' H'' hi g ⟨rfl, hx⟩
          obtain ⟨d, hd1, hd2⟩ := dpGet hZ hx
          obtain ⟨acc2, hac2, hAc2⟩ := id g.ex
          have hal := dpLen hAc2
          rw [stripAll_map, List.length_map] at hal
          have hil : i < es.length := (List.getElem?_eq_some_iff.mp hd1).1
          have B9 := B8.trans (g.same.trans (er_same _ _))
          obtain ⟨ss, ez, _⟩ := hS d (List.mem_of_getElem? hd1)
          obtain ⟨b, vs2, ds2, rfl, hq2, hA2, e2, _, _⟩ := dp_seq (dpSame B9 hd2) ez
          obtain rfl := dpAll_strs hA2 e2
          have e1 : stripAll (es.take (i + 1)) = stripAll (es.take i) ++ [strip d] := by rw [stripAll_map, stripAll_map, List.take_succ, hd1, List.map_append]; rfl
          have fin : ∀ r H10, Same H'' H10 → SqT K H10 r (ss.map V.str) → ∃ acc, H10 D3 = some (.lst acc) ∧ acc.length < sizeLine ∧ Grow K D3 H8 (upd H10 D3 (.lst (acc ++ [.ref r]))) (stripAll (es.take (i + 1))) := fun r H10 s10 hr10 => by
            refine ⟨acc2, s10 _ _ hac2, Nat.lt_of_le_of_lt (show acc2.length ≤ 1000 by rw [hal, List.length_take]; omega) (by decide), ?_⟩
            rw [e1, ez]
            exact (g.up s10).app (s10 _ _ hac2) (.tup (tupEr (s10 _ _ hac2) (noTup_lst _) hr10) (dpStrs ss))
          refine ⟨rfl, _, rfl, b, ss.map V.str, rfl, ?_⟩
          rcases hq2 with hq2 | hq2
          · exact .inl ⟨hq2, fun l nl => fin l _ (Same.new nl) (SqT.of upd_same)⟩
          · exact .inr ⟨hq2, fin b _ (Same.refl _) hq2⟩
        · rw [dpLen hZ, List.take_length] at g9
          obtain ⟨acc3, hac3, hAc3⟩ := id g9.ex
          refine ⟨D3, _, rfl, .inl ⟨SqL.of hac3, fun t2 ht2 => ?_⟩⟩
          have S10 : Same H8 (upd H9 t2 (.tup acc3)) := (g9.same.trans (er_same _ _)).trans (Same.new ht2)
          have A10 : DpAll K (upd H9 t2 (.tup acc3)) acc3 (stripAll es) := dpAllSame ((er_same _ _).trans (Same.new ht2)) hAc3
          refine ⟨_, rfl, p, A.a_Meal, dx, _, rfl, S10 _ _ hp8, T.cl_M, T.nP, Nat.lt_of_le_of_lt (putF_len _ _ _) (Nat.lt_of_le_of_lt (Nat.succ_le_succ (putF_len _ _ _)) (by decide)), ?_⟩
          have A11 : DpAll K (er (upd H9 t2 (.tup acc3)) p) acc3 (stripAll es) := dpAllEr (S10 _ _ hp8) (noTup_ins _ _ _) A10 (tp_stripAll es)
          have q11 : SqT K (er (upd H9 t2 (.tup acc3)) p) t2 acc3 := tupEr (S10 _ _ hp8) (noTup_ins _ _ _) (SqT.of upd_same)
          have F12 : Same (er H4 p) (er (upd (upd H9 t2 (.tup acc3)) p (.ins A.a_Meal dx (putF "places" (.ref t2) (putF "wished" (.ref t) (putF "bounds" (.ref D) []))))) p) := by rw [er_upd]; exact F8.trans (er_mono S10)
          have E12 : Same (er H p) (er (upd (upd H9 t2 (.tup acc3)) p (.ins A.a_Meal dx (putF "places" (.ref t2) (putF "wished" (.ref t) (putF "bounds" (.ref D) []))))) p) := by rw [er_upd]; exact E8.trans (er_mono S10)
          have A12 : DpAll K (er (upd (upd H9 t2 (.tup acc3)) p (.ins A.a_Meal dx (putF "places" (.ref t2) (putF "wished" (.ref t) (putF "bounds" (.ref D) []))))) p) acc3 (stripAll es) := by rw [er_upd]; exact A11
          have q12 : SqT K (er (upd (upd H9 t2 (.tup acc3)) p (.ins A.a_Meal dx (putF "places" (.ref t2) (putF "wished" (.ref t) (putF "bounds" (.ref D) []))))) p) t2 acc3 := by rw [er_upd]; exact q11
          have A13 : DpAll K (er (upd (upd H9 t2 (.tup acc3)) p (.ins A.a_Meal dx (putF "places" (.ref t2) (putF "wished" (.ref t) (putF "bounds" (.ref D) []))))) p) acc (stripAll ds) := by rw [er_upd]; exact dpAllSame (er_mono S10) A8
          have q13 : SqT K (er (upd (upd H9 t2 (.tup acc3)) p (.ins A.a_Meal dx (putF "places" (.ref t2) (putF "wished" (.ref t) (putF "bounds" (.ref D) []))))) p) t acc := by rw [er_upd]; exact stUp q8 (er_mono S10)
          have hp12 : upd (upd H9 t2 (.tup acc3)) p (.ins A.a_Meal dx (putF "places" (.ref t2) (putF "wished" (.ref t) (putF "bounds" (.ref D) [])))) p = some (.ins A.a_Meal dx [("bounds", .ref D), ("wished", .ref t), ("places", .ref t2)]) := by rw [upd_same, flds3]
          generalize upd (upd H9 t2 (.tup acc3)) p (.ins A.a_Meal dx (putF "places" (.ref t2) (putF "wished" (.ref t) (putF "bounds" (.ref D) [])))) = H12 at F12 E12 A12 q12 A13 q13 hp12 ⊢
          have oS : Same (er H12 p) H12 := er_same _ _
          refine k _ ys (fun H20 km => ⟨dx, D, t, t2, kk, acc, acc3, km _ _ hp12 (fun _ z => nomatch z) (fun _ z => nomatch z), km _ _ (oS _ _ (F12 _ _ (er_of nDp hkk))) (fun _ z => nomatch z) (fun _ _ => fD), Pr2.mov (fun _ _ => km.tup) (((hkl.er hp4 (noTup_ins _ _ _)).up F12).up oS), km.tup (stUp q13 oS), dpAllMov (fun _ _ => km.tup) (dpAllSame oS A13) (tp_stripAll ds), km.tup (stUp q12 oS), dpAllMov (fun _ _ => km.tup) (dpAllSame oS A12) (tp_stripAll es)⟩) hperm hsort E12
end
end K5
set_option Elab.async false
set_option linter.all false
set_option maxRecDepth 100000
set_option maxHeartbeats 4000000
namespace K5
open PySem L2
local macro_rules | `(tactic| walk_at "rd1") => `(tactic| first
  | refine ⟨_, _, rfl, rfl, ?_⟩
  | refine ⟨_, _, _, _, rfl, rfl, SqL.of (by assumption), rfl, ?_⟩
  | refine ⟨_, _, _, _, rfl, rfl, (by assumption), rfl, ?_⟩
  | refine .inl ⟨_, rfl, ?_⟩
  | refine ⟨_, rfl, ?_⟩
  | refine ⟨(by unfold CMul; omega), ?_⟩
  | refine ⟨(by unfold CPow; omega), ?_⟩
  | refine ⟨(by (try dsimp only); omega), ?_⟩
  | refine ⟨(by unfold CDiv; omega), ?_⟩
  | fail "rd1")
local macro_rules | `(tactic| walk_at "rd") => `(tactic| repeat' (walk_at "rd1"))
section
variable {P : Program} {w : World} {K : PySem.W.Frag} {mg : Str → Option Value} {base : Heap} {A : Ad}
def spMDishes (K : PySem.W.Frag) (C : Addr) : Sp := fun vs H Q _ => ∃ (p : Addr) (ys : List Str) (lo hi : Str → Int) (ds es : List PyData), vs = [.ref p] ∧ MlAt K C H p ys lo hi ds es ∧
  ∀ l H' kvs, H l = none → Same H H' → H' l = some (.dK kvs) → Pr2 K H' ys (fun n => .int (lo n)) (fun n => .int (hi n)) kvs → Q (.ref l) H'
theorem ok_mdishes (T : Txt K mg A) : FnOk P w K mg base CX0 1 A.a_Meal_dishes A.d_Meal_dishes P_Meal_dishes (spMDishes K A.a_Meal) := by
  refine T.f_Meal_dishes.ok sc_Meal_dishes (fun vs H Q E h => ?_) (fun cdv A' outer s H vs Q E hr h => ?_)
  · obtain ⟨p, ys, lo, hi, ds, es, rfl, _⟩ := h
    rfl
  · obtain ⟨p, ys, lo, hi, ds, es, rfl, M, k⟩ := h
    obtain ⟨dx, qb, qw, qp, kvs, ws, ps, hp, hb, hP, hw, hA, hq, hZ⟩ := M.ex
    refine ⟨_, (pss_one (ps_ret (pe_callTy call_dictD (by rfl) T.dict (by decide +kernel) (pa_cons (pe_fld (pv 0) rfl) pa_nil)))), ?_⟩
    exact ⟨_, rfl, p, A.a_Meal, dx, _, _, rfl, hp, T.cl_M, T.nB, by rfl, qb, _, rfl, .inl hb, fun l hl => k l _ kvs hl (Same.new hl) upd_same (hP.up (Same.new hl))⟩
def spMWishes (K : PySem.W.Frag) (C : Addr) : Sp := fun vs H Q _ => ∃ (p : Addr) (ys : List Str) (lo hi : Str → Int) (ds es : List PyData), vs = [.ref p] ∧ MlAt K C H p ys lo hi ds es ∧
  ∀ l ws, H l = none → DpAll K H ws ds → Q (.ref l) (upd H l (.lst ws))
theorem ok_mwishes (T : Txt K mg A) : FnOk P w K mg base CX0 1 A.a_Meal_wishes A.d_Meal_wishes P_Meal_wishes (spMWishes K A.a_Meal) := by
  refine T.f_Meal_wishes.ok sc_Meal_wishes (fun vs H Q E h => ?_) (fun cdv A' outer s H vs Q E hr h => ?_)
  · obtain ⟨p, ys, lo, hi, ds, es, rfl, _⟩ := h
    rfl
  · obtain ⟨p, ys, lo, hi, ds, es, rfl, M, k⟩ := h
    obtain ⟨dx, qb, qw, qp, kvs, ws, ps, hp, hb, hP, hw, hA, hq, hZ⟩ := M.ex
    refine ⟨_, (pss_one (ps_ret (pe_callTy call_list_of (by rfl) T.list (by decide +kernel) (pa_cons (pe_fld (pv 0) rfl) pa_nil)))), ?_⟩
    exact ⟨_, rfl, p, A.a_Meal, dx, _, _, rfl, hp, T.cl_M, T.nW, by rfl, qw, ws, rfl, .inr hw, fun l hl => k l ws hl hA⟩
end
end K5
set_option Elab.async false
set_option linter.all false
set_option maxRecDepth 100000
set_option maxHeartbeats 4000000
namespace K5
open PySem L2
local macro_rules | `(tactic| walk_at "rd1") => `(tactic| first
  | refine ⟨_, _, rfl, rfl, ?_⟩
  | refine ⟨_, _, _, _, rfl, rfl, SqL.of (by assumption), rfl, ?_⟩
  | refine ⟨_, _, _, _, rfl, rfl, (by assumption), rfl, ?_⟩
  | refine .inl ⟨_, rfl, ?_⟩
  | refine ⟨_, rfl, ?_⟩
  | refine ⟨(by unfold CMul; omega), ?_⟩
  | refine ⟨(by unfold CPow; omega), ?_⟩
  | refine ⟨(by (try dsimp only); omega), ?_⟩
  | refine ⟨(by unfold CDiv; omega), ?_⟩
  | fail "rd1")
local macro_rules | `(tactic| walk_at "rd") => `(tactic| repeat' (walk_at "rd1"))
section
variable {P : Program} {w : World} {K : PySem.W.Frag} {mg : Str → Option Value} {base : Heap} {A : Ad}
mutual
inductive Lz (H : Hp) : V → PyData → List Addr → Prop
  | str (s : Str) : Lz H (.str s) (.str s) []
  | int (i : Int) : Lz H (.int i) (.int i) []
  | lst {a : Addr} {xs : List V} {ds : List PyData} {L : List Addr} (h : H a = some (.lst xs)) (hA : LzAll H xs ds L) (n : a ∉ L) (l : ds.length ≤ 64) : Lz H (.ref a) (.list ds) (a :: L)
  | tup {a : Addr} {xs : List V} {ds : List PyData} {L : List Addr} (h : H a = some (.tup xs)) (hA : LzAll H xs ds L) (l : ds.length ≤ 64) : Lz H (.ref a) (.tuple ds) L
inductive LzAll (H : Hp) : List V → List PyData → List Addr → Prop
  | nil : LzAll H [] [] []
  | cons {x : V} {xs : List V} {d : PyData} {ds : List PyData} {L1 L2 : List Addr} (h : Lz H x d L1) (t : LzAll H xs ds L2) (n : ∀ a ∈ L1, a ∉ L2) : LzAll H (x :: xs) (d :: ds) (L1 ++ L2)
end
mutual
theorem lzKeep {H H' : Hp} : ∀ {v : V} {d : PyData} {L : List Addr}, Lz H v d L → (∀ b u, H b = some u → (b ∈ L ∨ ∃ xs, u = .tup xs) → H' b = some u) → Lz H' v d L
  | _, _, _, .str s, _ => .str s
  | _, _, _, .int i, _ => .int i
  | _, _, _, .lst h hA n l, f => .lst (f _ _ h (.inl (.head _))) (lzAllKeep hA fun b u e q => f b u e (q.imp_left fun m => .tail _ m)) n l
  | _, _, _, .tup h hA l, f => .tup (f _ _ h (.inr ⟨_, rfl⟩)) (lzAllKeep hA f) l
theorem lzAllKeep {H H' : Hp} : ∀ {vs : List V} {ds : List PyData} {L : List Addr}, LzAll H vs ds L → (∀ b u, H b = some u → (b ∈ L ∨ ∃ xs, u = .tup xs) → H' b = some u) → LzAll H' vs ds L
  | _, _, _, .nil, _ => .nil
  | _, _, _, .cons h t n, f => .cons (lzKeep h fun b u e q => f b u e (q.imp_left fun m => List.mem_append_left _ m)) (lzAllKeep t fun b u e q => f b u e (q.imp_left fun m => List.mem_append_right _ m)) n
end
mutual
theorem lzAt {H : Hp} : ∀ {v : V} {d : PyData} {L : List Addr}, Lz H v d L → ∀ a ∈ L, ∃ xs, H a = some (.lst xs)
  | _, _, _, .str s, _, m => by cases m
  | _, _, _, .int i, _, m => by cases m
  | _, _, _, .lst h hA _ _, b, m => by
    rcases List.mem_cons.mp m with e | m
    · subst e; exact ⟨_, h⟩
    · exact lzAllAt hA b m
  | _, _, _, .tup h hA _, b, m => lzAllAt hA b m
theorem lzAllAt {H : Hp} : ∀ {vs : List V} {ds : List PyData} {L : List Addr}, LzAll H vs ds L → ∀ a ∈ L, ∃ xs, H a = some (.lst xs)
  | _, _, _, .nil, _, m => by cases m
  | _, _, _, .cons h t _, b, m => by
    rcases List.mem_append.mp m with m | m
    · exact lzAt h b m
    · exact lzAllAt t b m
end
theorem lzAllUp {H H' : Hp} {vs : List V} {ds : List PyData} {L : List Addr} (h : LzAll H vs ds L) (s : Same H H') : LzAll H' vs ds L := lzAllKeep h fun b u e _ => s b u e
theorem lzSnoc {H : Hp} {x : V} {d : PyData} {L1 : List Addr} (h : Lz H x d L1) : ∀ {xs : List V} {ds : List PyData} {L : List Addr}, LzAll H xs ds L → (∀ a ∈ L, a ∉ L1) → LzAll H (xs ++ [x]) (ds ++ [d]) (L ++ L1)
  | _, _, _, .nil, _ => by
    have := LzAll.cons h .nil (fun a _ z => by cases z)
    rwa [List.append_nil] at this
  | _, _, _, .cons (L1 := M1) (L2 := M2) g t n, f => by
    rw [List.append_assoc]
    exact .cons g (lzSnoc h t fun a m => f a (List.mem_append_right _ m)) fun a m z => (List.mem_append.mp z).elim (n a m) (f a (List.mem_append_left _ m))
theorem lzLen {H : Hp} : ∀ {vs : List V} {ds : List PyData} {L : List Addr}, LzAll H vs ds L → vs.length = ds.length
  | _, _, _, .nil => rfl
  | _, _, _, .cons _ t _ => congrArg (· + 1) (lzLen t)
mutual
def tq : PyData → Bool
  | .str _ => true
  | .int _ => true
  | .tuple xs => decide (xs.length ≤ 64) && tqAll xs
  | _ => false
def tqAll : List PyData → Bool
  | [] => true
  | d :: ds => tq d && tqAll ds
end
mutual
def cost : PyData → Nat
  | .tuple xs => costAll xs + 1
  | _ => 0
def costAll : List PyData → Nat
  | [] => 0
  | d :: ds => cost d + costAll ds
end
theorem tqAll_mem : ∀ {ds : List PyData}, tqAll ds = true → ∀ d ∈ ds, tq d = true
  | [], _, d, m => by cases m
  | e :: ds, h, d, m => by
    simp only [tqAll, Bool.and_eq_true] at h
    rcases List.mem_cons.mp m with q | m
    · rw [q]; exact h.1
    · exact tqAll_mem h.2 d m
theorem cost_take {ds : List PyData} {i : Nat} {d : PyData} (h : ds[i]? = some d) : costAll (ds.take (i + 1)) = costAll (ds.take i) + cost d := by
  have app : ∀ xs ys : List PyData, costAll (xs ++ ys) = costAll xs + costAll ys := fun xs ys => by
    induction xs with
    | nil => simp [costAll]
    | cons x xs ih => simp only [List.cons_append, costAll, ih]; omega
  rw [List.take_succ, h, app]
  simp [costAll]
theorem cost_le (ds : List PyData) (i : Nat) : costAll (ds.take i) ≤ costAll ds := by
  have : ∀ (ds : List PyData) (i : Nat), costAll (ds.take i) ≤ costAll ds := fun ds => by
    induction ds with
    | nil => intro i; simp
    | cons d ds ih =>
      intro i
      cases i with
      | zero => simp [costAll]
      | succ i =>
        simp only [List.take_succ_cons, costAll]
        exact Nat.add_le_add_left (ih i) _
  exact this ds i
end
end K5
set_option Elab.async false
set_option linter.all false
set_option maxRecDepth 100000
set_option maxHeartbeats 4000000
namespace K5
open PySem L2
local macro_rules | `(tactic| walk_at "rd1") => `(tactic| first
  | refine ⟨_, _, rfl, rfl, ?_⟩
  | refine ⟨_, _, _, _, rfl, rfl, SqL.of (by assumption), rfl, ?_⟩
  | refine ⟨_, _, _, _, rfl, rfl, (by assumption), rfl, ?_⟩
  | refine .inl ⟨_, rfl, ?_⟩
  | refine ⟨_, rfl, ?_⟩
  | refine ⟨(by unfold CMul; omega), ?_⟩
  | refine ⟨(by unfold CPow; omega), ?_⟩
  | refine ⟨(by (try dsimp only); omega), ?_⟩
  | refine ⟨(by unfold CDiv; omega), ?_⟩
  | fail "rd1")
local macro_rules | `(tactic| walk_at "rd") => `(tactic| repeat' (walk_at "rd1"))
section
variable {P : Program} {w : World} {K : PySem.W.Frag} {mg : Str → Option Value} {base : Heap} {A : Ad}
def StnN (ns : List Str) (d : PyData) : Prop := ∃ ss : List Str, d = .tuple (ss.map PyData.str) ∧ ss.Nodup ∧ 2 ≤ ss.length ∧ ss.length ≤ 64 ∧ ∀ s ∈ ss, s ∈ ns
theorem tpAll_of : ∀ {ds : List PyData}, (∀ d ∈ ds, tp d = true) → tpAll ds = true
  | [], _ => rfl
  | d :: ds, h => by
    simp only [tpAll, Bool.and_eq_true]
    exact ⟨h d (List.mem_cons_self ..), tpAll_of fun e m => h e (List.mem_cons_of_mem _ m)⟩
end
end K5
set_option Elab.async false
set_option linter.all false
set_option maxRecDepth 100000
set_option maxHeartbeats 4000000
namespace K5
open PySem L2
local macro_rules | `(tactic| walk_at "rd1") => `(tactic| first
  | refine ⟨_, _, rfl, rfl, ?_⟩
  | refine ⟨_, _, _, _, rfl, rfl, SqL.of (by assumption), rfl, ?_⟩
  | refine ⟨_, _, _, _, rfl, rfl, (by assumption), rfl, ?_⟩
  | refine .inl ⟨_, rfl, ?_⟩
  | refine ⟨_, rfl, ?_⟩
  | refine ⟨(by unfold CMul; omega), ?_⟩
  | refine ⟨(by unfold CPow; omega), ?_⟩
  | refine ⟨(by (try dsimp only); omega), ?_⟩
  | refine ⟨(by unfold CDiv; omega), ?_⟩
  | fail "rd1")
local macro_rules | `(tactic| walk_at "rd") => `(tactic| repeat' (walk_at "rd1"))
section
variable {P : Program} {w : World} {K : PySem.W.Frag} {mg : Str → Option Value} {base : Heap} {A : Ad}
theorem momN_tp {ns : List Str} {d : PyData} (h : MomN ns d) : tp d = true := by
  cases h <;> simp [tp, tpAll]
theorem wshN_tp {ns : List Str} {d : PyData} (h : WshN ns d) : tp d = true := by
  cases h with
  | mk ha hb => simp only [tp, tpAll, momN_tp ha, momN_tp hb, Bool.and_self]
theorem tpAll_w {ns : List Str} {ds : List PyData} (h : ∀ d ∈ ds, WshN ns d) : tpAll ds = true := tpAll_of fun d m => wshN_tp (h d m)
/-- names that are keys of a dict -/
def InK (kvs : List (Key × V)) (ns : List Str) : Prop := ∀ n ∈ ns, (valV kvs (.inr n)).isSome = true ∧ PyData.strOk n = true
theorem MomN.at {kvs : List (Key × V)} {ns : List Str} {d : PyData} (h : InK kvs ns) (m : MomN ns d) : Mom kvs d := by
  cases m with
  | clock => exact .clock
  | edge he hn => exact .edge he (h _ hn).1 (h _ hn).2
theorem WshN.at {kvs : List (Key × V)} {ns : List Str} {d : PyData} (h : InK kvs ns) (m : WshN ns d) : Wsh kvs d := by
  cases m with
  | mk ha hb => exact .mk (ha.at h) (hb.at h)
theorem StnN.at {kvs : List (Key × V)} {ns : List Str} {d : PyData} (h : InK kvs ns) (m : StnN ns d) : Stn kvs d := by
  obtain ⟨ss, e, nd, l1, l2, hm⟩ := m
  exact ⟨ss, e, nd, l1, l2, fun s q => (h s (hm s q)).1⟩
theorem PrX.inK {H : Hp} {ks : List Str} {f g : Str → V} {kvs : List (Key × V)} (h : PrX K H ks f g kvs) (nd : ks.Nodup) (ok : ∀ n ∈ ks, PyData.strOk n = true) : InK kvs ks := fun n m => by
  obtain ⟨a, e, _⟩ := h.val nd m
  exact ⟨by rw [e]; rfl, ok n m⟩
theorem InK.sub {kvs : List (Key × V)} {ns ms : List Str} (h : InK kvs ms) (s : ∀ n ∈ ns, n ∈ ms) : InK kvs ns := fun n m => h n (s n m)
theorem strip_atAll {P : PyData → Prop} {ds es : List PyData} (e : stripAll ds = es) (h : ∀ d ∈ es, P d) : ∀ d ∈ ds, P (strip d) := fun d m => h _ (by rw [← e, stripAll_map]; exact List.mem_map.mpr ⟨d, m, rfl⟩)
theorem strip_len {ds es : List PyData} (e : stripAll ds = es) : ds.length = es.length := by rw [← e, stripAll_map, List.length_map]
/-- a meal is made -/
theorem mk_meal {H : Hp} {C dd a s0 : Addr} {kvs : List (Key × V)} {ks : List Str} {lo hi : Str → Int} {xs zs : List V} {ds es dw ew : List PyData} {Q : Addr → Hp → Prop} {E : XK}
    (hd : H dd = some (.dK kvs)) (hP : PrX K H ks (fun n => .int (lo n)) (fun n => .int (hi n)) kvs) (kN : ks.Nodup) (hB : ∀ n ∈ ks, (Nm n ∧ PyData.strOk n = true) ∧ 1 ≤ lo n ∧ lo n ≤ hi n) (hl : ks.length < 64)
    (ha : SqX K H a xs) (hA : DpAll K H xs ds) (e1 : stripAll ds = dw) (dl : dw.length ≤ 1000) (hW : ∀ d ∈ dw, WshN ks d) (hs : SqX K H s0 zs) (hZ : DpAll K H zs es) (e2 : stripAll es = ew) (el : ew.length ≤ 1000) (hS : ∀ d ∈ ew, StnN ks d)
    (k : ∀ p H' ys, H p = none → Same H H' → (∀ H2, KeepM H H' H2 → MlAt K C H2 p ys lo hi dw ew) → ys.Perm ks → PyProof.Rows.sortedS ys = true → Q p H') :
    ∀ p dx, H p = none → H dx = none → dx ≠ p → spInit K C [.ref p, .ref dd, .ref a, .ref s0] (upd (upd H dx (.own p)) p (.ins C dx [])) (fun v H' => v = .non ∧ Q p H') E := by
  intro p dx np ndx ndp
  have sM : Same H (upd (upd H dx (.own p)) p (.ins C dx [])) := fun b u e => by rw [upd_ne (ne_of_none e np), upd_ne (ne_of_none e ndx)]; exact e
  have sE : Same H (er (upd (upd H dx (.own p)) p (.ins C dx [])) p) := fun b u e => er_of (ne_of_none e np) (sM _ _ e)
  have iK := hP.inK kN fun n m => (hB n m).1.2
  refine ⟨p, dx, dd, a, s0, kvs, ks, lo, hi, xs, ds, zs, es, rfl, upd_same, sM _ _ hd, hP.up sM, kN, hB, hl, sxUp ha sE, dpAllSame sE hA, by rw [strip_len e1]; exact dl, strip_atAll e1 fun d m => (hW d m).at iK, sxUp hs sE, dpAllSame sE hZ, by rw [strip_len e2]; exact el, strip_atAll e2 fun d m => (hS d m).at iK, fun H' ys MN hperm hsort sS => ⟨rfl, ?_⟩⟩
  rw [e1, e2] at MN
  exact k p H' ys np (fun b u e => (er_same _ _) _ _ (sS _ _ (sE _ _ e))) (fun H2 km => MN H2 fun b u e1 e2 e3 => km b u e1 e2 fun kk q => sM.free (e3 kk q)) hperm hsort
end
end K5
set_option Elab.async false
set_option linter.all false
set_option maxRecDepth 100000
set_option maxHeartbeats 4000000
namespace K5
open PySem L2
local macro_rules | `(tactic| walk_at "rd1") => `(tactic| first
  | refine ⟨_, _, rfl, rfl, ?_⟩
  | refine ⟨_, _, _, _, rfl, rfl, SqL.of (by assumption), rfl, ?_⟩
  | refine ⟨_, _, _, _, rfl, rfl, (by assumption), rfl, ?_⟩
  | refine .inl ⟨_, rfl, ?_⟩
  | refine ⟨_, rfl, ?_⟩
  | refine ⟨(by unfold CMul; omega), ?_⟩
  | refine ⟨(by unfold CPow; omega), ?_⟩
  | refine ⟨(by (try dsimp only); omega), ?_⟩
  | refine ⟨(by unfold CDiv; omega), ?_⟩
  | fail "rd1")
local macro_rules | `(tactic| walk_at "rd") => `(tactic| repeat' (walk_at "rd1"))
section
variable {P : Program} {w : World} {K : PySem.W.Frag} {mg : Str → Option Value} {base : Heap} {A : Ad}
theorem eqvAll_strs : ∀ {xs ys : List Str}, PyData.eqvAll (xs.map PyData.str) (ys.map PyData.str) = true → xs = ys
  | [], [], _ => rfl
  | [], _ :: _, h => by simp [PyData.eqvAll] at h
  | _ :: _, [], h => by simp [PyData.eqvAll] at h
  | x :: xs, y :: ys, h => by
    simp only [List.map_cons, PyData.eqvAll, PyData.eqv, Bool.and_eq_true, beq_iff_eq] at h
    rw [h.1, eqvAll_strs h.2]
theorem WshN.mono {ns ms : List Str} {d : PyData} (s : ∀ n ∈ ns, n ∈ ms) (h : WshN ns d) : WshN ms d := by
  have mm : ∀ {e : PyData}, MomN ns e → MomN ms e := fun q => by
    cases q with
    | clock => exact .clock
    | edge he hn => exact .edge he (s _ hn)
  cases h with
  | mk ha hb => exact .mk (mm ha) (mm hb)
theorem StnN.mono {ns ms : List Str} {d : PyData} (s : ∀ n ∈ ns, n ∈ ms) (h : StnN ns d) : StnN ms d := by
  obtain ⟨ss, e, nd, l1, l2, m⟩ := h
  exact ⟨ss, e, nd, l1, l2, fun x q => s _ (m x q)⟩
end
end K5
set_option Elab.async false
set_option linter.all false
set_option maxRecDepth 100000
set_option maxHeartbeats 4000000
namespace K5
open PySem L2
local macro_rules | `(tactic| walk_at "rd1") => `(tactic| first
  | refine ⟨_, _, rfl, rfl, ?_⟩
  | refine ⟨_, _, _, _, rfl, rfl, SqL.of (by assumption), rfl, ?_⟩
  | refine ⟨_, _, _, _, rfl, rfl, (by assumption), rfl, ?_⟩
  | refine .inl ⟨_, rfl, ?_⟩
  | refine ⟨_, rfl, ?_⟩
  | refine ⟨(by unfold CMul; omega), ?_⟩
  | refine ⟨(by unfold CPow; omega), ?_⟩
  | refine ⟨(by (try dsimp only); omega), ?_⟩
  | refine ⟨(by unfold CDiv; omega), ?_⟩
  | fail "rd1")
local macro_rules | `(tactic| walk_at "rd") => `(tactic| repeat' (walk_at "rd1"))
section
variable {P : Program} {w : World} {K : PySem.W.Frag} {mg : Str → Option Value} {base : Heap} {A : Ad}
/-- G' is G and what is new since H -/
structure More (H G G' : Hp) : Prop where
  same : Same G G'
  new : ∀ b, G' b ≠ none → G b ≠ none ∨ H b = none
theorem More.refl (H G : Hp) : More H G G := ⟨Same.refl _, fun _ h => .inl h⟩
theorem More.step {H H1 G G1 G2 : Hp} (a : More H G G1) (s : Same H H1) (b : More H1 G1 G2) : More H G G2 := ⟨a.same.trans b.same, fun x h => (b.new x h).elim (a.new x) fun e => .inr (s.free e)⟩
theorem More.put {H G G1 : Hp} {D : Addr} {o : HO} (a : More H G G1) (hD : H D = none) (h1 : G1 D = none) : More H G (upd G1 D o) := ⟨a.same.trans (Same.new h1), fun b h => by
  by_cases e : b = D
  · exact .inr (by rw [e]; exact hD)
  · rw [upd_ne e] at h; exact a.new b h⟩
theorem dpApp {H : Hp} : ∀ {vs : List V} {ds : List PyData} {v : V} {d : PyData}, DpAll K H vs ds → Dp K H v d → DpAll K H (vs ++ [v]) (ds ++ [d])
  | _, _, _, _, .nil, h => .cons h .nil
  | _, _, _, _, .cons a b, h => .cons a (dpApp b h)
def spCopy (K : PySem.W.Frag) (n : Nat) : Sp := fun vs H Q _ => ∃ x, vs = [x] ∧
  ((∃ (d : PyData) (G : Hp), Same G H ∧ Dp K G x d ∧ d.depth < n ∧ wid d = true ∧ ∀ y G' H', Same H H' → More H G G' → Same G' H' → Dp K G' y d → Q y H') ∨
    (∃ a, x = .ref a ∧ H a = some (.dK []) ∧ 0 < n ∧ ∀ b H', Same H H' → H b = none → H' b = some (.dK []) → Q (.ref b) H'))
theorem copy_loop {J : It} {n : Nat} {Gd : Hp → Prop} {xs : List V} {ds : List PyData} {H G : Hp} {D : Addr} {x0 : V} {Qd : Hp → Prop} (wk : Walk J xs.length Gd (YAt xs)) (hx : DpAll K G xs ds) (hGH : Same G H)
    (hd : PyData.depthAll ds < n) (hw : widAll ds = true) (hN : ds.length ≤ 1000) (hG : ∀ H', Same H H' → Gd H') (hD : H D = none) (hq : ∀ H' acc G', Same H H' → H' D = some (.lst acc) → More H G G' → Same G' H' → G' D = none → DpAll K G' acc ds → Qd H') :
    ∃ W : Nat → Nat → Hp → Prop, (∃ m, W 0 m (upd H D (.lst []))) ∧ ∀ i m H, W i m H →
      (J.stop i H ∧ Qd H) ∨ (J.go i H ∧ ∃ Nx : Hp → Prop, (∀ H', Nx H' → ∃ m', m' < m ∧ W (i + 1) m' H') ∧ ∀ x H', J.yld i H x H' →
        gName 1 x (wipe [some x0, none, none] [1]) H' fun σ2 H2 => wipe σ2 [1] = wipe [some x0, none, none] [1] ∧ tYes σ2 H2 fun b H3 =>
        if b = true then (tCall (spCopy K n) [] E0 (tCons (tVar 1) tNil)) σ2 H3 fun y H4 => ∃ acc, H4 D = some (.lst acc) ∧ acc.length < sizeLine ∧ Nx (upd H4 D (.lst (acc ++ [y]))) else Nx H3) := by
  have gD : G D = none := hGH.free hD
  refine lc_it wk (fun i H' => Same H H' ∧ ∃ acc G', H' D = some (.lst acc) ∧ More H G G' ∧ Same G' H' ∧ G' D = none ∧ DpAll K G' acc (ds.take i)) ⟨Same.new hD, [], G, upd_same, More.refl _ _, hGH.trans (Same.new hD), gD, .nil⟩ (fun i H' _ p => hG H' p.1) ?_ (fun H' p => ?_)
  · rintro i v H' H'' hi ⟨s1, acc, G', hD', mo, sG, gD', hA⟩ ⟨rfl, hv⟩
    obtain ⟨d, hd1, dx⟩ := dpGet hx hv
    have hdep : d.depth < n := Nat.lt_of_le_of_lt (PyData.depth_le_depthAll ds d (List.mem_of_getElem? hd1)) hd
    have hil : i < ds.length := (List.getElem?_eq_some_iff.mp hd1).1
    have hal := dpLen hA
    refine ⟨rfl, _, rfl, v, rfl, .inl ⟨d, G', sG, dpSame mo.same dx, hdep, widAll_mem hw (List.mem_of_getElem? hd1), fun y G2 H3 s3 mo2 sG2 hy => ?_⟩⟩
    have hD3 := s3 _ _ hD'
    refine ⟨acc, hD3, Nat.lt_of_le_of_lt (show acc.length ≤ 1000 by rw [hal, List.length_take]; omega) (by decide), ?_, acc ++ [y], G2, upd_same, mo.step s1 mo2, ?_, ?_, ?_⟩
    · exact fun b u e => by rw [upd_ne (ne_of_none e hD)]; exact s3 _ _ (s1 _ _ e)
    · have g2 : G2 D = none := by
        cases e : G2 D with
        | none => rfl
        | some o => exact ((mo2.new D (by rw [e]; exact fun z => nomatch z)).elim (fun z => z gD') fun z => by rw [hD'] at z; cases z).elim
      exact fun b u e => by rw [upd_ne (ne_of_none e g2)]; exact sG2 _ _ e
    · cases e : G2 D with
      | none => rfl
      | some o => exact ((mo2.new D (by rw [e]; exact fun z => nomatch z)).elim (fun z => z gD') fun z => by rw [hD'] at z; cases z).elim
    · rw [List.take_succ, hd1]
      exact dpApp (dpAllSame mo2.same hA) hy
  · obtain ⟨s1, acc, G', hD', mo, sG, gD', hA⟩ := p
    rw [dpLen hx, List.take_length] at hA
    exact hq H' acc G' s1 hD' mo sG gD' hA
theorem ok_copied (T : Txt K mg A) : ∀ n : Nat, FnOk P w K mg base CX0 n A.a_copied A.d_copied P_copied (spCopy K n)
  | 0 => no_fn fun vs H Q E ⟨_, _, h⟩ => h.elim (fun ⟨_, _, _, _, h, _⟩ => absurd h (Nat.not_lt_zero _)) fun ⟨_, _, _, h, _⟩ => absurd h (Nat.not_lt_zero _)
  | n + 1 => by
    have G_copied : FnOk P w K mg base CX0 n A.a_copied A.d_copied P_copied (spCopy K n) := ok_copied T n
    refine T.f_copied.ok sc_copied (fun vs H Q E h => ?_) (fun cdv A' outer s H vs Q E hr h => ?_)
    · obtain ⟨x, rfl, _⟩ := h
      rfl
    · obtain ⟨x, rfl, h⟩ := h
      refine ⟨_, (pss_cons (ps_if (pt_val (pe_callB call_isi (by rfl) T.isinstance (by decide +kernel) (pa_cons (pv 0) (pa_cons (pe_bltn (v := .ty "list") (u := .type "list") (by rfl) T.list (by decide +kernel) rfl) pa_nil))))
 (pss_one (ps_ret (pe_lc (own := [("part", 1)]) (g := gName 1) (by rfl) sc_copied.nd (EnT.pi_or (pi_list (pv 0)) (pi_tup (pv 0))) (blkOk_by (N := N_copied) (sc := defScope s_copied) (by decide +kernel)) (fun _ _ _ _ _ => pg_name (i := 1) sc_copied.nd rfl (Or.inl rfl)) (fun _ _ _ _ _ => pts_nil) (fun _ _ _ _ _ => (pe_call G_copied (hr.mono (by omega)) (by rfl) T.g_copied T.f_copied.kp T.b_copied .nil pass0 (pa_cons (pv 1) pa_nil))))))
 pss_nil)
 (pss_cons (ps_if (pt_val (pe_callB call_isi (by rfl) T.isinstance (by decide +kernel) (pa_cons (pv 0) (pa_cons (pe_bltn (v := .ty "tuple") (u := .type "tuple") (by rfl) T.tuple (by decide +kernel) rfl) pa_nil))))
 (pss_one (ps_ret (pe_callTy call_tuple_of (by rfl) T.tuple (by decide +kernel) (pa_cons (pe_lc (own := [("part", 1)]) (g := gName 1) (by rfl) sc_copied.nd (EnT.pi_or (pi_list (pv 0)) (pi_tup (pv 0))) (blkOk_by (N := N_copied) (sc := defScope s_copied) (by decide +kernel)) (fun _ _ _ _ _ => pg_name (i := 1) sc_copied.nd rfl (Or.inl rfl)) (fun _ _ _ _ _ => pts_nil) (fun _ _ _ _ _ => (pe_call G_copied (hr.mono (by omega)) (by rfl) T.g_copied T.f_copied.kp T.b_copied .nil pass0 (pa_cons (pv 1) pa_nil)))) pa_nil))))
 pss_nil)
 (pss_cons (ps_if (pt_val (pe_callB call_isi (by rfl) T.isinstance (by decide +kernel) (pa_cons (pv 0) (pa_cons (pe_bltn (v := .ty "dict") (u := .type "dict") (by rfl) T.dict (by decide +kernel) rfl) pa_nil))))
 (pss_one (ps_ret (pe_lock (pe_dc (own := [("key", 2)]) (g := gName 2) (by rfl) sc_copied.nd (pi_keys (pv 0)) (blkOk_by (N := N_copied) (sc := defScope s_copied) (by decide +kernel)) (fun _ _ _ _ _ => pg_name (i := 2) sc_copied.nd rfl (Or.inl rfl)) (fun _ _ _ _ _ => pts_nil) (fun _ _ _ _ _ => (pv 2)) (fun _ _ _ _ _ => (pe_call G_copied (hr.mono (by omega)) (by rfl) T.g_copied T.f_copied.kp T.b_copied .nil pass0 (pa_cons (pe_dget (hu_of hr) (pv 0) (pv 2) (fun _ _ => rfl)) pa_nil)))))))
 pss_nil)
 (pss_one (ps_ret (pv 0)))))), ?_⟩
      rcases h with ⟨d, G, sG, hx, hd, hw, k⟩ | ⟨a, rfl, ha, _, k⟩
      · cases hx with
        | non => exact ⟨_, rfl, _, _, .type "NoneType", _, false, rfl, .ty _, .base .non, kit_ty (by decide +kernel), _, rfl, iteF ⟨_, rfl, _, _, .type "NoneType", _, false, rfl, .ty _, .base .non, kit_ty (by decide +kernel), _, rfl, iteF ⟨_, rfl, _, _, .type "NoneType", _, false, rfl, .ty _, .base .non, kit_ty (by decide +kernel), _, rfl, iteF ⟨_, rfl, k _ G H (Same.refl _) (More.refl _ _) sG (.non)⟩⟩⟩⟩
        | bl b => exact ⟨_, rfl, _, _, .type "bool", _, false, rfl, .ty _, .base (.bl _), kit_ty (by decide +kernel), _, rfl, iteF ⟨_, rfl, _, _, .type "bool", _, false, rfl, .ty _, .base (.bl _), kit_ty (by decide +kernel), _, rfl, iteF ⟨_, rfl, _, _, .type "bool", _, false, rfl, .ty _, .base (.bl _), kit_ty (by decide +kernel), _, rfl, iteF ⟨_, rfl, k _ G H (Same.refl _) (More.refl _ _) sG (.bl _)⟩⟩⟩⟩
        | int i => exact ⟨_, rfl, _, _, .type "int", _, false, rfl, .ty _, .base (.int _), kit_ty (by decide +kernel), _, rfl, iteF ⟨_, rfl, _, _, .type "int", _, false, rfl, .ty _, .base (.int _), kit_ty (by decide +kernel), _, rfl, iteF ⟨_, rfl, _, _, .type "int", _, false, rfl, .ty _, .base (.int _), kit_ty (by decide +kernel), _, rfl, iteF ⟨_, rfl, k _ G H (Same.refl _) (More.refl _ _) sG (.int _)⟩⟩⟩⟩
        | str z => exact ⟨_, rfl, _, _, .type "str", _, false, rfl, .ty _, .base (.str _), kit_ty (by decide +kernel), _, rfl, iteF ⟨_, rfl, _, _, .type "str", _, false, rfl, .ty _, .base (.str _), kit_ty (by decide +kernel), _, rfl, iteF ⟨_, rfl, _, _, .type "str", _, false, rfl, .ty _, .base (.str _), kit_ty (by decide +kernel), _, rfl, iteF ⟨_, rfl, k _ G H (Same.refl _) (More.refl _ _) sG (.str _)⟩⟩⟩⟩
        | lst hL hA =>
          obtain ⟨w1, w2⟩ := wid_parts (.inl hw)
          have t1 := tyL (sqUp hL sG)
          refine ⟨_, rfl, _, _, .type "list", _, true, rfl, .ty _, t1, kit_ty (by decide +kernel), _, rfl, iteT ?_⟩
          refine seq_or (H0 := H) (.inl (sqUp hL sG)) (Same.refl _) rfl fun J Gd wk hG => fun D hD => copy_loop wk hA sG (by simp only [PyData.depth] at hd; omega) w2 w1 hG hD (fun H' acc G' s' hD' mo sG' gD hA' => ?_)
          refine k (.ref D) (upd G' D (.lst acc)) H' s' (mo.put hD gD) ?_ (.lst (SqL.of upd_same) (dpAllSame (Same.new gD) hA'))
          intro b u e
          by_cases hb : b = D
          · subst hb; rw [upd_same] at e; cases e; exact hD'
          · rw [upd_ne hb] at e; exact sG' _ _ e
        | tup hL hA =>
          obtain ⟨w1, w2⟩ := wid_parts (.inr hw)
          have t1 := tyT (stUp hL sG)
          refine ⟨_, rfl, _, _, .type "tuple", _, false, rfl, .ty _, t1, kit_ty (by decide +kernel), _, rfl, iteF ?_⟩
          refine ⟨_, rfl, _, _, .type "tuple", _, true, rfl, .ty _, t1, kit_ty (by decide +kernel), _, rfl, iteT ?_⟩
          refine seq_or (H0 := H) (.inr (stUp hL sG)) (Same.refl _) rfl fun J Gd wk hG => fun D hD => copy_loop wk hA sG (by simp only [PyData.depth] at hd; omega) w2 w1 hG hD (fun H' acc G' s' hD' mo sG' gD hA' => ?_)
          refine ⟨D, _, rfl, .inl ⟨SqL.of hD', fun t ht => ?_⟩⟩
          have gt : G' t = none := sG'.free ht
          refine k (.ref t) (upd G' t (.tup acc)) _ (s'.trans (Same.new ht)) (mo.put (s'.free ht) gt) ?_ (.tup (SqT.of upd_same) (dpAllSame (Same.new gt) hA'))
          intro b u e
          by_cases hb : b = t
          · subst hb; rw [upd_same] at e ⊢; exact e
          · rw [upd_ne hb] at e ⊢; exact sG' _ _ e
      · have t1 : TyX K H (.ref a) (.type "dict") := .base (.dK ha)
        refine ⟨_, rfl, _, _, .type "dict", _, false, rfl, .ty _, t1, kit_ty (by decide +kernel), _, rfl, iteF ?_⟩
        refine ⟨_, rfl, _, _, .type "dict", _, false, rfl, .ty _, t1, kit_ty (by decide +kernel), _, rfl, iteF ?_⟩
        refine ⟨_, rfl, _, _, .type "dict", _, true, rfl, .ty _, t1, kit_ty (by decide +kernel), _, rfl, iteT ?_⟩
        refine ⟨a, _, ha, trivial, fun od => ?_⟩
        refine ⟨_, rfl, a, od, rfl, .inl ⟨[], upd_same, fun D hD => fillD walk_keys (fun i H' => H' = upd (upd H a (.frz od (.dK []))) D (.dK [])) rfl (fun i H' _ e => ?_) ?_ (fun H' e => ?_)⟩⟩
        · have n : a ≠ D := ne_of_none upd_same hD
          rw [e, upd_ne n, upd_same]
        · intro i x H' H'' hi
          exact absurd hi (Nat.not_lt_zero _)
        · subst e
          have n : a ≠ D := ne_of_none upd_same hD
          have hD0 : H D = none := by rw [upd_ne n.symm] at hD; exact hD
          refine ⟨by rw [upd_ne n, upd_same], k D _ (fun b u e => ?_) hD0 (by rw [upd_ne n.symm, upd_same])⟩
          by_cases hb : b = a
          · subst hb; rw [upd_same]; rw [ha] at e; exact e
          · rw [upd_ne hb, upd_ne (ne_of_none e hD0), upd_ne hb]; exact e
/-- data that can be copied: at a depth below n, in G; or an empty dict -/
def Cpre (K : PySem.W.Frag) (n : Nat) (G H : Hp) (x : V) : Prop := Same G H ∧ ((∃ d, Dp K G x d ∧ d.depth < n ∧ wid d = true) ∨ ∃ a, x = .ref a ∧ H a = some (.dK []) ∧ 0 < n)
/-- two of the same data -/
def SD (K : PySem.W.Frag) (n : Nat) (H : Hp) (x y : V) : Prop := (∃ d, Dp K H x d ∧ Dp K H y d ∧ d.depth < n ∧ wid d = true) ∨ ∃ a b, x = .ref a ∧ y = .ref b ∧ H a = some (.dK []) ∧ H b = some (.dK [])
theorem exo_dK {e C : Addr} {d : Option Addr} {kvs : List (Key × V)} : exo e C d ≠ .dK kvs := fun z => by unfold exo at z; cases z
end
end K5
set_option Elab.async false
set_option linter.all false
set_option maxRecDepth 100000
set_option maxHeartbeats 4000000
namespace K5
open PySem L2
local macro_rules | `(tactic| walk_at "rd1") => `(tactic| first
  | refine ⟨_, _, rfl, rfl, ?_⟩
  | refine ⟨_, _, _, _, rfl, rfl, SqL.of (by assumption), rfl, ?_⟩
  | refine ⟨_, _, _, _, rfl, rfl, (by assumption), rfl, ?_⟩
  | refine .inl ⟨_, rfl, ?_⟩
  | refine ⟨_, rfl, ?_⟩
  | refine ⟨(by unfold CMul; omega), ?_⟩
  | refine ⟨(by unfold CPow; omega), ?_⟩
  | refine ⟨(by (try dsimp only); omega), ?_⟩
  | refine ⟨(by unfold CDiv; omega), ?_⟩
  | fail "rd1")
local macro_rules | `(tactic| walk_at "rd") => `(tactic| repeat' (walk_at "rd1"))
open Own
section
variable {P : Program} {w : World} {K : PySem.W.Frag} {mg : Str → Option Value} {base : Heap} {A : Ad}
def spIsIntT (K : PySem.W.Frag) : Sp := fun vs H Q _ => ∃ (x : V) (t : String), vs = [x] ∧ TyX K H x (.type t) ∧ ((t = "int" ∧ Q (.bl true) H) ∨ (t = "bool" ∧ Q (.bl false) H) ∨ (kitB t "int" = some false ∧ Q (.bl false) H))
theorem ok_isintT (T : Txt K mg A) : FnOk P w K mg base CX0 1 A.a_is_integer A.d_is_integer P_is_integer (spIsIntT K) := by
  refine T.f_is_integer.ok sc_is_integer (fun vs H Q E h => ?_) (fun cdv A' outer s H vs Q E hr h => ?_)
  · obtain ⟨x, t, rfl, _⟩ := h
    rfl
  · obtain ⟨x, t, rfl, hx, h⟩ := h
    refine ⟨_, (pss_one (ps_ret (pe_and (pe_callB call_isi (by rfl) T.isinstance (by decide +kernel) (pa_cons (pv 0) (pa_cons (pe_bltn (v := .ty "int") (u := .type "int") (by rfl) T.int (by decide +kernel) rfl) pa_nil))) (pe_one (pe_not (pe_callB call_isi (by rfl) T.isinstance (by decide +kernel) (pa_cons (pv 0) (pa_cons (pe_bltn (v := .ty "bool") (u := .type "bool") (by rfl) T.bool (by decide +kernel) rfl) pa_nil)))))))), ?_⟩
    rcases h with ⟨rfl, k⟩ | ⟨rfl, k⟩ | ⟨e, k⟩
    · exact ⟨_, rfl, _, _, .type "int", _, true, rfl, .ty _, hx, kit_ty (by decide +kernel), _, rfl, iteT ⟨_, rfl, _, _, .type "int", _, false, rfl, .ty _, hx, kit_ty (by decide +kernel), _, rfl, k⟩⟩
    · exact ⟨_, rfl, _, _, .type "bool", _, true, rfl, .ty _, hx, kit_ty (by decide +kernel), _, rfl, iteT ⟨_, rfl, _, _, .type "bool", _, true, rfl, .ty _, hx, kit_ty (by decide +kernel), _, rfl, k⟩⟩
    · exact ⟨_, rfl, _, _, .type t, _, false, rfl, .ty _, hx, kit_ty e, _, rfl, iteF k⟩
/-- what is no number of a wish -/
def NoIx (K : PySem.W.Frag) (H : Hp) (n : Nat) (x : V) : Prop := (∃ i : Int, x = .int i ∧ (i < 0 ∨ (n : Int) ≤ i)) ∨ ∃ t, TyX K H x (.type t) ∧ (t = "bool" ∨ kitB t "int" = some false)
def spIsIdx (K : PySem.W.Frag) : Sp := fun vs H Q _ => ∃ (x : V) (q : Addr) (ws : List V), vs = [x, .ref q] ∧ SqX K H q ws ∧ ((∃ i : Nat, x = .int (i : Int) ∧ i < ws.length ∧ Q (.bl true) H) ∨ (NoIx K H ws.length x ∧ Q (.bl false) H))
theorem ok_isidx (T : Txt K mg A) : FnOk P w K mg base CX0 2 A.a_is_index A.d_is_index P_is_index (spIsIdx K) := by
  have G_is_integer : FnOk P w K mg base CX0 1 A.a_is_integer A.d_is_integer P_is_integer (spIsIntT K) := ok_isintT T
  refine T.f_is_index.ok sc_is_index (fun vs H Q E h => ?_) (fun cdv A' outer s H vs Q E hr h => ?_)
  · obtain ⟨x, q, ws, rfl, _⟩ := h
    rfl
  · obtain ⟨x, q, ws, rfl, hq, h⟩ := h
    refine ⟨_, (pss_one (ps_ret (pe_and (pe_call G_is_integer (hr.mono (by omega)) (by rfl) T.g_is_integer T.f_is_integer.kp T.b_is_integer .nil pass0 (pa_cons (pv 0) pa_nil)) (pe_one (pe_chain op_le op_lt pe_int (pv 0) (pe_callB call_len_seq (by rfl) T.len PySem.boot_len (pa_cons (pv 1) pa_nil))))))), ?_⟩
    rcases h with ⟨i, rfl, hi, k⟩ | ⟨⟨i, rfl, hi⟩ | ⟨t, ht, e⟩, k⟩
    · refine ⟨_, rfl, _, "int", rfl, .base (.int _), .inl ⟨rfl, _, rfl, iteT ?_⟩⟩
      refine ⟨_, rfl, _, _, rfl, rfl, _, rfl, ite2 (fun _ => ?_) (fun z => (z (decide_eq_true (by omega))).elim)⟩
      refine ⟨_, rfl, q, _, rfl, hq, _, _, rfl, rfl, ?_⟩
      show Q (.bl (decide ((i : Int) < (ws.length : Int)))) H
      rw [decide_eq_true (show (i : Int) < (ws.length : Int) by omega)]
      exact k
    · refine ⟨_, rfl, _, "int", rfl, .base (.int _), .inl ⟨rfl, _, rfl, iteT ?_⟩⟩
      refine ⟨_, rfl, _, _, rfl, rfl, _, rfl, ite2 (fun z => ?_) (fun z => ?_)⟩
      · have z : 0 ≤ i := of_decide_eq_true z
        refine ⟨_, rfl, q, _, rfl, hq, _, _, rfl, rfl, ?_⟩
        show Q (.bl (decide (i < (ws.length : Int)))) H
        rw [decide_eq_false (show ¬ i < (ws.length : Int) by omega)]
        exact k
      · exact k
    · rcases e with rfl | e
      · exact ⟨_, rfl, _, "bool", rfl, ht, .inr (.inl ⟨rfl, _, rfl, iteF k⟩)⟩
      · exact ⟨_, rfl, _, t, rfl, ht, .inr (.inr ⟨e, _, rfl, iteF k⟩)⟩
theorem cutT {xs : List V} {k : Nat} (h : k ≤ xs.length) : cutV xs none (some (k : Int)) = xs.take k := by
  unfold cutV
  rw [HT.sIx_none, HT.sIx_nat, List.drop_zero, Nat.sub_zero, Nat.min_eq_left h]
theorem cutD {xs : List V} {k : Nat} (h : k ≤ xs.length) : cutV xs (some (k : Int)) none = xs.drop k := by
  unfold cutV
  rw [HT.sIx_none, HT.sIx_nat, Nat.min_eq_left h, List.take_of_length_le (by rw [List.length_drop]; exact Nat.le_refl _)]
/-- an exception is made: what the def's own field is -/
theorem exc_fin {H : Hp} {C a : Addr} {n : Nat} {f : Str} {x y : V} {Hc : Hp} {dd : Addr} {E : XK} (na : H a = none) (s1 : Same (upd H a (exo a C none)) Hc) (h1 : Hc dd = none) (h2 : dd ≠ a) (hs : ∀ H', (∀ b u, Hc b = some u → b ≠ a → H' b = some u) → SD K n H' x y)
    (k : ∀ y dd H', Same H H' → H' dd = some (.xd [(f, y)]) → SD K n H' x y → E (.ref C) (some dd) H') : ∀ H2 : Hp, H2 = upd (upd Hc dd (exd dd [(f, y)])) a (exo a C (some dd)) →
    H2 a = some (exo a C (some dd)) ∧ H2 dd = some (exd dd [(f, y)]) ∧ H dd = none ∧ E (.ref C) (some dd) (upd (del H2 a) dd (.xd [(f, y)])) := by
  rintro H2 rfl
  have sH : Same H Hc := (Same.new na).trans s1
  have keep : ∀ b u, Hc b = some u → b ≠ a → upd (del (upd (upd Hc dd (exd dd [(f, y)])) a (exo a C (some dd))) a) dd (.xd [(f, y)]) b = some u := fun b u e ne => by
    have nd2 : b ≠ dd := fun z => by rw [z, h1] at e; cases e
    rw [upd_ne nd2, del_ne ne, upd_ne ne, upd_ne nd2]
    exact e
  refine ⟨upd_same, by rw [upd_ne h2, upd_same], sH.free h1, k y dd _ (fun b u e => keep b u (sH _ _ e) fun z => by rw [z, na] at e; cases e) upd_same (hs _ keep)⟩
theorem exc_pre {H G : Hp} {C a : Addr} {n : Nat} {x : V} (na : H a = none) (sG : Same G H) (hx : (∃ d, Dp K G x d ∧ d.depth < n ∧ wid d = true) ∨ ∃ a, x = .ref a ∧ H a = some (.dK []) ∧ 0 < n) : Cpre K n G (upd H a (exo a C none)) x :=
  ⟨sG.trans (Same.new na), hx.imp_right fun ⟨a2, e, h2, h3⟩ => ⟨a2, e, Same.new na _ _ h2, h3⟩⟩
end
end K5
set_option Elab.async false
set_option linter.all false
set_option maxRecDepth 100000
set_option maxHeartbeats 4000000
namespace K5
open PySem L2
local macro_rules | `(tactic| walk_at "rd1") => `(tactic| first
  | refine ⟨_, _, rfl, rfl, ?_⟩
  | refine ⟨_, _, _, _, rfl, rfl, SqL.of (by assumption), rfl, ?_⟩
  | refine ⟨_, _, _, _, rfl, rfl, (by assumption), rfl, ?_⟩
  | refine .inl ⟨_, rfl, ?_⟩
  | refine ⟨_, rfl, ?_⟩
  | refine ⟨(by unfold CMul; omega), ?_⟩
  | refine ⟨(by unfold CPow; omega), ?_⟩
  | refine ⟨(by (try dsimp only); omega), ?_⟩
  | refine ⟨(by unfold CDiv; omega), ?_⟩
  | fail "rd1")
local macro_rules | `(tactic| walk_at "rd") => `(tactic| repeat' (walk_at "rd1"))
open Own
section
variable {P : Program} {w : World} {K : PySem.W.Frag} {mg : Str → Option Value} {base : Heap} {A : Ad}
theorem valV_not {kvs : List (Key × V)} {k : Key} (h : k ∉ kvs.map (·.1)) : valV kvs k = none := by
  induction kvs with
  | nil => rfl
  | cons p r ih =>
    rw [List.map_cons, List.mem_cons, not_or] at h
    rw [valV_neg (fun e => h.1 e.symm)]
    exact ih h.2
theorem key_some {kvs : List (Key × V)} {ks : List Str} (h : kvs.map (·.1) = ks.map Sum.inr) (s : Str) : (valV kvs (.inr s)).isSome = decide (s ∈ ks) := by
  by_cases m : s ∈ ks
  · rw [decide_eq_true m]
    have : (Sum.inr s : Key) ∈ kvs.map (·.1) := by rw [h]; exact List.mem_map.mpr ⟨s, m, rfl⟩
    clear h m
    induction kvs with
    | nil => cases this
    | cons p r ih =>
      by_cases e : p.1 = .inr s
      · rw [valV_pos e]; rfl
      · rw [valV_neg e]
        exact ih ((List.mem_cons.mp this).resolve_left fun z => e z.symm)
  · rw [decide_eq_false m, valV_not (by
      rw [h]
      intro z
      obtain ⟨y, hy, e⟩ := List.mem_map.mp z
      exact m (by rw [← Sum.inr.inj e]; exact hy))]; rfl
end
end K5
set_option Elab.async false
set_option linter.all false
set_option maxRecDepth 100000
set_option maxHeartbeats 4000000
namespace K5
open PySem L2
local macro_rules | `(tactic| walk_at "rd1") => `(tactic| first
  | refine ⟨_, _, rfl, rfl, ?_⟩
  | refine ⟨_, _, _, _, rfl, rfl, SqL.of (by assumption), rfl, ?_⟩
  | refine ⟨_, _, _, _, rfl, rfl, (by assumption), rfl, ?_⟩
  | refine .inl ⟨_, rfl, ?_⟩
  | refine ⟨_, rfl, ?_⟩
  | refine ⟨(by unfold CMul; omega), ?_⟩
  | refine ⟨(by unfold CPow; omega), ?_⟩
  | refine ⟨(by (try dsimp only); omega), ?_⟩
  | refine ⟨(by unfold CDiv; omega), ?_⟩
  | fail "rd1")
local macro_rules | `(tactic| walk_at "rd") => `(tactic| repeat' (walk_at "rd1"))
open Own
section
variable {P : Program} {w : World} {K : PySem.W.Frag} {mg : Str → Option Value} {base : Heap} {A : Ad}
def wsh (s a t b : Str) (m : Int) : PyData := .tuple [.tuple [.str s, .str a], .tuple [.str t, .str b], .int m]
def two (a b : Str) (m : Int) : List PyData := [wsh "done" a "done" b m, wsh "done" b "done" a m]
def row (m : Int) (a : Str) : List Str → List PyData
  | [] => []
  | b :: r => two a b m ++ row m a r
theorem wish_made {H : Hp} {p t1 t2 t3 : Addr} {o : HO} {s a t b : Str} {m : Int} (hp : H p = some o) (h1 : H t1 = none) (h2 : upd H t1 (.tup [.str s, .str a]) t2 = none) (h3 : upd (upd H t1 (.tup [.str s, .str a])) t2 (.tup [.str t, .str b]) t3 = none) :
    Same H (upd (upd (upd H t1 (.tup [.str s, .str a])) t2 (.tup [.str t, .str b])) t3 (.tup [.ref t1, .ref t2, .int m])) ∧
    Dp K (er (upd (upd (upd H t1 (.tup [.str s, .str a])) t2 (.tup [.str t, .str b])) t3 (.tup [.ref t1, .ref t2, .int m])) p) (.ref t3) (wsh s a t b m) := by
  have s1 : Same H (upd H t1 (.tup [.str s, .str a])) := Same.new h1
  have s2 : Same (upd H t1 (.tup [.str s, .str a])) (upd (upd H t1 (.tup [.str s, .str a])) t2 (.tup [.str t, .str b])) := Same.new h2
  have s3 : Same (upd (upd H t1 (.tup [.str s, .str a])) t2 (.tup [.str t, .str b])) (upd (upd (upd H t1 (.tup [.str s, .str a])) t2 (.tup [.str t, .str b])) t3 (.tup [.ref t1, .ref t2, .int m])) := Same.new h3
  have n1 : t1 ≠ p := (ne_of_none hp h1).symm
  have n2 : t2 ≠ p := (ne_of_none (s1 _ _ hp) h2).symm
  have n3 : t3 ≠ p := (ne_of_none (s2 _ _ (s1 _ _ hp)) h3).symm
  refine ⟨(s1.trans s2).trans s3, .tup (SqT.of (er_of n3 upd_same)) (.cons (.tup (SqT.of (er_of n1 (s3 _ _ (s2 _ _ upd_same)))) (.cons (.str _) (.cons (.str _) .nil))) (.cons (.tup (SqT.of (er_of n2 (s3 _ _ upd_same))) (.cons (.str _) (.cons (.str _) .nil))) (.cons (.int _) .nil)))⟩
theorem same_erp {H : Hp} {p : Addr} {o : HO} (hp : H p = none) : Same H (er (upd H p o) p) := fun b u e => by
  rw [er_upd]; exact er_of (ne_of_none e hp) e
/-- two further wishes -/
theorem Grow.two {p : Addr} {H H' : Hp} {ds : List PyData} (g : Grow K p H H' ds) {a b : Str} {m : Int} {t1 t2 t3 : Addr} (h1 : H' t1 = none) (h2 : upd H' t1 (.tup [.str "done", .str a]) t2 = none) (h3 : upd (upd H' t1 (.tup [.str "done", .str a])) t2 (.tup [.str "done", .str b]) t3 = none) :
    ∀ vs, H' p = some (.lst vs) → Grow K p H (upd (upd (upd (upd H' t1 (.tup [.str "done", .str a])) t2 (.tup [.str "done", .str b])) t3 (.tup [.ref t1, .ref t2, .int m])) p (.lst (vs ++ [.ref t3]))) (ds ++ [wsh "done" a "done" b m]) := fun vs hp => by
  obtain ⟨s3, d3⟩ := wish_made (K := K) (m := m) hp h1 h2 h3
  exact (g.up s3).app (s3 _ _ hp) d3
end
end K5
set_option Elab.async false
set_option linter.all false
set_option maxRecDepth 100000
set_option maxHeartbeats 4000000
namespace K5
open PySem L2
local macro_rules | `(tactic| walk_at "rd1") => `(tactic| first
  | refine ⟨_, _, rfl, rfl, ?_⟩
  | refine ⟨_, _, _, _, rfl, rfl, SqL.of (by assumption), rfl, ?_⟩
  | refine ⟨_, _, _, _, rfl, rfl, (by assumption), rfl, ?_⟩
  | refine .inl ⟨_, rfl, ?_⟩
  | refine ⟨_, rfl, ?_⟩
  | refine ⟨(by unfold CMul; omega), ?_⟩
  | refine ⟨(by unfold CPow; omega), ?_⟩
  | refine ⟨(by (try dsimp only); omega), ?_⟩
  | refine ⟨(by unfold CDiv; omega), ?_⟩
  | fail "rd1")
local macro_rules | `(tactic| walk_at "rd") => `(tactic| repeat' (walk_at "rd1"))
open Own
section
variable {P : Program} {w : World} {K : PySem.W.Frag} {mg : Str → Option Value} {base : Heap} {A : Ad}
theorem NoIx.upD {n m : Nat} {H H' : Hp} {x : V} {d : PyData} (h : NoIx K H m x) (hd : Dp K H x d) (s : Same H H') : NoIx K H' m x := by
  rcases h with h | ⟨t, ht, e⟩
  · exact .inl h
  · refine .inr ?_
    cases hd with
    | str z => cases ht with | base q => cases q; exact ⟨"str", .base (.str _), .inr (by decide +kernel)⟩
    | non => exact ⟨"NoneType", .base .non, .inr (by decide +kernel)⟩
    | bl b => exact ⟨"bool", .base (.bl _), .inl rfl⟩
    | int i => cases ht with | base q => cases q; exact e.elim (fun e => absurd e (by decide)) (fun e => absurd e (by decide +kernel))
    | lst h q => exact ⟨"list", tyL (sqUp h s), .inr (by decide +kernel)⟩
    | tup h q => exact ⟨"tuple", tyT (stUp h s), .inr (by decide +kernel)⟩
end
end K5
set_option Elab.async false
set_option linter.all false
set_option maxRecDepth 100000
set_option maxHeartbeats 4000000
namespace K5
open PySem L2
local macro_rules | `(tactic| walk_at "rd1") => `(tactic| first
  | refine ⟨_, _, rfl, rfl, ?_⟩
  | refine ⟨_, _, _, _, rfl, rfl, SqL.of (by assumption), rfl, ?_⟩
  | refine ⟨_, _, _, _, rfl, rfl, (by assumption), rfl, ?_⟩
  | refine .inl ⟨_, rfl, ?_⟩
  | refine ⟨_, rfl, ?_⟩
  | refine ⟨(by unfold CMul; omega), ?_⟩
  | refine ⟨(by unfold CPow; omega), ?_⟩
  | refine ⟨(by (try dsimp only); omega), ?_⟩
  | refine ⟨(by unfold CDiv; omega), ?_⟩
  | fail "rd1")
local macro_rules | `(tactic| walk_at "rd") => `(tactic| repeat' (walk_at "rd1"))
open Own
section
variable {P : Program} {w : World} {K : PySem.W.Frag} {mg : Str → Option Value} {base : Heap} {A : Ad}
theorem fnOr {CX : CXT} {k : Nat} {f : Addr} {fd : FuncData} {ps : List Str} {sp1 sp2 : Sp} (F1 : FnOk P w K mg base CX k f fd ps sp1) (F2 : FnOk P w K mg base CX k f fd ps sp2) : FnOk P w K mg base CX k f fd ps (fun vs H Q E => sp1 vs H Q E ∨ sp2 vs H Q E) :=
  ⟨fun vs H Q E h => h.elim (F1.len vs H Q E) (F2.len vs H Q E), fun A outer s H args us vs Q E hr e b v h => h.elim (F1.run A outer s H args us vs Q E hr e b v) (F2.run A outer s H args us vs Q E hr e b v)⟩
theorem inV_strs (a : Str) (xs : List Str) : inV (.str a) (xs.map V.str) = decide (a ∈ xs) := by
  unfold inV
  rw [Bool.eq_iff_iff, List.any_eq_true, decide_eq_true_iff]
  constructor
  · rintro ⟨y, hy, e⟩
    obtain ⟨r, hr, rfl⟩ := List.mem_map.mp hy
    have e' : (r == a) = true := e
    rw [← eq_of_beq e']; exact hr
  · intro m
    exact ⟨.str a, List.mem_map.mpr ⟨a, m, rfl⟩, by show (a == a) = true; exact beq_self_eq_true a⟩
theorem flat_strs (ss : List Str) : (ss.map V.str).all flatV = true := List.all_eq_true.mpr fun x m => by
  obtain ⟨z, _, rfl⟩ := List.mem_map.mp m
  rfl
end
end K5
set_option Elab.async false
set_option linter.all false
set_option maxRecDepth 100000
set_option maxHeartbeats 4000000
namespace K5
open PySem L2
local macro_rules | `(tactic| walk_at "rd1") => `(tactic| first
  | refine ⟨_, _, rfl, rfl, ?_⟩
  | refine ⟨_, _, _, _, rfl, rfl, SqL.of (by assumption), rfl, ?_⟩
  | refine ⟨_, _, _, _, rfl, rfl, (by assumption), rfl, ?_⟩
  | refine .inl ⟨_, rfl, ?_⟩
  | refine ⟨_, rfl, ?_⟩
  | refine ⟨(by unfold CMul; omega), ?_⟩
  | refine ⟨(by unfold CPow; omega), ?_⟩
  | refine ⟨(by (try dsimp only); omega), ?_⟩
  | refine ⟨(by unfold CDiv; omega), ?_⟩
  | fail "rd1")
local macro_rules | `(tactic| walk_at "rd") => `(tactic| repeat' (walk_at "rd1"))
open Own
section
variable {P : Program} {w : World} {K : PySem.W.Frag} {mg : Str → Option Value} {base : Heap} {A : Ad}
def nt (H : Hp) : Hp := fun a => match H a with | some (.tbl _) => none | o => o
theorem nt_ne {H : Hp} {a : Addr} {o : HO} (h : nt H a = some o) : ∀ ps, o ≠ .tbl ps := fun ps e => by
  subst e
  unfold nt at h
  cases e : H a with
  | none => rw [e] at h; cases h
  | some u => rw [e] at h; cases u <;> cases h
theorem nt_some {H : Hp} {a : Addr} {o : HO} (h : nt H a = some o) : H a = some o := by
  unfold nt at h
  cases e : H a with
  | none => rw [e] at h; cases h
  | some u => rw [e] at h; cases u <;> first | exact h | cases h
theorem nt_of {H : Hp} {a : Addr} {o : HO} (h : H a = some o) (n : ∀ ps, o ≠ .tbl ps) : nt H a = some o := by
  unfold nt
  rw [h]
  cases o <;> first | rfl | exact absurd rfl (n _)
theorem nt_same {H : Hp} : Same (nt H) H := fun _ _ h => nt_some h
theorem nt_mono {H H' : Hp} (s : Same H H') : Same (nt H) (nt H') := fun _ _ h => nt_of (s _ _ (nt_some h)) (nt_ne h)
/-- all but the draws' state and the tables -/
def nE (H : Hp) (st : Addr) : Hp := nt (er H st)
theorem nE_same {H : Hp} {st : Addr} : Same (nE H st) H := nt_same.trans (er_same _ _)
theorem nE_mono {H H' : Hp} {st : Addr} (s : Same H H') : Same (nE H st) (nE H' st) := nt_mono (er_mono s)
theorem nE_ext {H H' : Hp} {st : Addr} (e : LamX.ExtN H H') : Same (nE H st) (nE H' st) := fun _ _ h => by
  have q := er_some (nt_some h)
  exact nt_of (er_of q.1 (e _ _ q.2 (nt_ne h))) (nt_ne h)
theorem nE_of {H : Hp} {st a : Addr} {o : HO} (h : er H st a = some o) (n : ∀ ps, o ≠ .tbl ps) : nE H st a = some o := nt_of h n
theorem sqtNt {H : Hp} {a : Addr} {xs : List V} (h : SqT K H a xs) : SqT K (nt H) a xs := by
  rcases h with (h | ⟨o, h⟩) | h
  · exact .inl (.inl (nt_of h fun _ z => nomatch z))
  · exact .inl (.inr ⟨o, nt_of h fun _ z => nomatch z⟩)
  · exact .inr h
theorem Pr2.nt {H : Hp} {ns : List Str} {f g : Str → V} {kvs : List (Key × V)} (h : Pr2 K H ns f g kvs) : Pr2 K (nt H) ns f g kvs :=
  ⟨h.keys, fun i n e => by obtain ⟨a, e1, e2⟩ := h.at_ i n e; exact ⟨a, e1, sqtNt e2⟩⟩
theorem nt_ext {H H' : Hp} (e : LamX.ExtN H H') : Same (nt H) (nt H') := fun _ _ h => nt_of (e _ _ (nt_some h) (nt_ne h)) (nt_ne h)
theorem ext_nt {H H' : Hp} (s : Same (nt H) (nt H')) : LamX.ExtN H H' := fun _ _ h n => nt_some (s _ _ (nt_of h n))
theorem sqlNt {H : Hp} {a : Addr} {xs : List V} (h : SqL K H a xs) : SqL K (nt H) a xs := by
  rcases h with (h | ⟨o, h⟩) | h
  · exact .inl (.inl (nt_of h fun _ z => nomatch z))
  · exact .inl (.inr ⟨o, nt_of h fun _ z => nomatch z⟩)
  · exact .inr h
mutual
theorem dpNt {H : Hp} : ∀ {v : V} {d : PyData}, Dp K H v d → Dp K (nt H) v d
  | _, _, .non => .non
  | _, _, .bl b => .bl b
  | _, _, .int i => .int i
  | _, _, .str x => .str x
  | _, _, .lst h q => .lst (sqlNt h) (dpAllNt q)
  | _, _, .tup h q => .tup (sqtNt h) (dpAllNt q)
theorem dpAllNt {H : Hp} : ∀ {vs : List V} {ds : List PyData}, DpAll K H vs ds → DpAll K (nt H) vs ds
  | _, _, .nil => .nil
  | _, _, .cons a b => .cons (dpNt a) (dpAllNt b)
end
theorem takes_len {X : Cx} {W : WX} (t : Takes X W) : Takes X (fun c d σ H => σ.length = X.N.length → W c d σ H) := fun u s' ⟨a, B, sI, pins, σ, H, cls, d, e, I, nb, up, sky, na, os, ag, w⟩ =>
  t u s' ⟨a, B, sI, pins, σ, H, cls, d, e, I, nb, up, sky, na, os, ag, w I.len⟩
theorem three {α : Type} {xs : List α} (h : xs.length = 3) : ∃ x y z, xs = [x, y, z] := match xs, h with | [x, y, z], _ => ⟨x, y, z, rfl⟩
end
end K5
set_option Elab.async false
set_option linter.all false
set_option maxRecDepth 100000
set_option maxHeartbeats 4000000
namespace K5
open PySem L2
local macro_rules | `(tactic| walk_at "rd1") => `(tactic| first
  | refine ⟨_, _, rfl, rfl, ?_⟩
  | refine ⟨_, _, _, _, rfl, rfl, SqL.of (by assumption), rfl, ?_⟩
  | refine ⟨_, _, _, _, rfl, rfl, (by assumption), rfl, ?_⟩
  | refine .inl ⟨_, rfl, ?_⟩
  | refine ⟨_, rfl, ?_⟩
  | refine ⟨(by unfold CMul; omega), ?_⟩
  | refine ⟨(by unfold CPow; omega), ?_⟩
  | refine ⟨(by (try dsimp only); omega), ?_⟩
  | refine ⟨(by unfold CDiv; omega), ?_⟩
  | fail "rd1")
local macro_rules | `(tactic| walk_at "rd") => `(tactic| repeat' (walk_at "rd1"))
section
variable {P : Program} {w : World} {K : PySem.W.Frag} {mg : Str → Option Value} {base : Heap} {A : Ad}
abbrev Rows := List (Str × Str)
def kvR (rows : Rows) : List (Key × V) := rows.map fun r => (.inr r.1, .str r.2)
def ksR (rows : Rows) : List Str := rows.map (·.1)
/-- each hangs on the clock or on one ahead of it -/
def Tree (rows : Rows) : Prop := ∀ (i : Nat) (k h : Str), rows[i]? = some (k, h) → h = "clock" ∨ h ∈ ksR (rows.take i)
theorem kvR_keys (rows : Rows) : (kvR rows).map (·.1) = (ksR rows).map Sum.inr := by simp [kvR, ksR]
theorem kvR_len (rows : Rows) : (kvR rows).length = rows.length := by simp [kvR]
theorem kvR_app (rows : Rows) (k h : Str) : kvR (rows ++ [(k, h)]) = kvR rows ++ [(.inr k, .str h)] := by simp [kvR]
theorem ksR_app (rows : Rows) (k h : Str) : ksR (rows ++ [(k, h)]) = ksR rows ++ [k] := by simp [ksR]
theorem Tree.nil : Tree [] := fun i k h e => by simp at e
theorem Tree.app {rows : Rows} {k h : Str} (t : Tree rows) (hh : h = "clock" ∨ h ∈ ksR rows) : Tree (rows ++ [(k, h)]) := fun i k' h' e => by
  rcases Nat.lt_or_ge i rows.length with lt | ge
  · rw [List.getElem?_append_left lt] at e
    rw [List.take_append_of_le_length (Nat.le_of_lt lt)]
    exact t i k' h' e
  · rw [List.getElem?_append_right ge] at e
    have e0 : i - rows.length = 0 := by
      rcases Nat.eq_zero_or_pos (i - rows.length) with z | z
      · exact z
      · rw [List.getElem?_eq_none (by simp; omega)] at e; cases e
    rw [e0] at e
    cases e
    have : i = rows.length := by omega
    subst this
    rw [List.take_append_of_le_length (Nat.le_refl _), List.take_length]
    exact hh
def spHung (K : PySem.W.Frag) : Sp := fun vs H Q _ => ∃ (st c t : Addr) (ns : List Str) (b : Int), vs = [.ref st, .ref t] ∧ Sta H st c b ∧ b + 130 ≤ 1000000 ∧ SqL K (er H st) t (ns.map V.str) ∧ ns.length ≤ 64 ∧ ns.Nodup ∧ (∀ s ∈ ns, PyData.strOk s = true) ∧
  ∀ (p : Addr) (rows : Rows) (H' : Hp), (ksR rows).Perm ns → Tree rows → Gs st c H H' (b + 130) → er H' st p = some (.dK (kvR rows)) → er H st p = none → Q (.ref p) H'
theorem ok_hung (T : Txt K mg A) : FnOk P w K mg base CX0 3 A.a__law_hung A.d__law_hung P__law_hung (spHung K) := by
  have G__law_mix : FnOk P w K mg base CX0 2 A.a__law_mix A.d__law_mix P__law_mix (spMix K) := ok_mix T
  have G__law_one : FnOk P w K mg base CX0 2 A.a__law_one A.d__law_one P__law_one (spOne K) := ok_one T
  refine T.f__law_hung.ok sc__law_hung (fun vs H Q E h => ?_) (fun cdv A' outer s H vs Q E hr h => ?_)
  · obtain ⟨st, c, t, ns, b, rfl, _⟩ := h
    rfl
  · obtain ⟨st, c, t, ns, b, rfl, S, hb, hS, hl, hnd, hok, k⟩ := h
    refine ⟨_, (pss_cons (ps_par (i := 2) (j := 3) (by rfl) sc__law_hung.nd rfl rfl (by decide) rfl rfl (pa_cons (pe_call G__law_mix (hr.mono (by omega)) (by rfl) T.g__law_mix T.f__law_mix.kp T.b__law_mix .nil pass0 (pa_cons (pv 0) (pa_cons (pv 1) pa_nil))) (pa_cons pe_dnewK pa_nil)) (by rfl))
 (pss_cons (ps_for PassesOwn.never rfl (pi_enum (by rfl) T.enumerate (pa_cons (pv 2) pa_nil)) (pg_tup (by rfl) (pgs_cons (pg_name (i := 4) sc__law_hung.nd rfl (Or.inl rfl)) (pgs_cons (pg_name (i := 5) sc__law_hung.nd rfl (Or.inl rfl)) pgs_nil)))
 (pss_one (ps_dput (hu_of hr) (pv 3) (pv 5) (pe_call G__law_one (hr.mono (by omega)) (by rfl) T.g__law_one T.f__law_one.kp T.b__law_one .nil pass0 (pa_cons (pv 0) (pa_cons (pe_op op_cat (pe_lst (pa_cons pe_str pa_nil)) (pe_slice sl_list (pv 2) po_none (po_some (pv 4)))) pa_nil))) rfl)))
 (pss_one (ps_ret (pv 3))))), ?_⟩
    refine ⟨_, rfl, _, rfl, st, c, t, ns, b, rfl, S, by omega, hS, hl, hok, fun q ys H1 hperm g1 hq hq0 => fun p hp => ⟨_, _, rfl, ?_⟩⟩
    have yN : ys.Nodup := hperm.nodup_iff.mpr hnd
    have yl : ys.length ≤ 64 := by rw [hperm.length_eq]; exact hl
    have mp := g1.sta.ne hp
    have ep : er H st p = none := g1.same.free (er_none hp)
    have g2 := g1.new hp (o := .dK [])
    have npq : p ≠ q := (ne_of_none ((er_same _ _) _ _ hq) hp).symm
    have hq2 := er_mono (st := st) (Same.new (o := .dK []) hp) _ _ hq
    have hp2 : er (upd H1 p (.dK [])) st p = some (.dK []) := er_of mp upd_same
    generalize upd H1 p (.dK []) = H2 at g2 hq2 hp2 ⊢
    refine ⟨_, rfl, q, _, rfl, SqL.of ((er_same _ _) _ _ hq2), for_it walk_enum (fun i σ' H' => ∃ x y rows, σ' = [some (.ref st), some (.ref t), some (.ref q), some (.ref p), x, y] ∧ Gs st c H H' (b + 64 + (i : Int)) ∧ er H' st q = some (.lst (ys.map V.str)) ∧ er H' st p = some (.dK (kvR rows)) ∧ ksR rows = ys.take i ∧ Tree rows)
      ⟨_, _, [], rfl, by simpa using g2, hq2, hp2, rfl, Tree.nil⟩ (fun i σ' H' _ z => SqL.of ((er_same _ _) _ _ z.choose_spec.choose_spec.choose_spec.2.2.1)) ?_ ?_⟩
    · rintro i x σ' H' H'' hi ⟨_, _, rows, rfl, g, hq3, hp3, hks, hT⟩ ⟨Tt, u, v, rfl, hTt, rfl, hu, hv⟩
      have eu : u = .int (i : Nat) := (Option.some.inj hu).symm
      subst eu
      obtain ⟨hi, rfl⟩ := str_at hv
      have g3 := g.new hTt (o := .tup [.int (i : Nat), .str ys[i]])
      have s3 : Same (er H' st) (er (upd H' Tt (.tup [.int (i : Nat), .str ys[i]])) st) := er_mono (Same.new hTt)
      refine ⟨Tt, _, rfl, SqT.of upd_same, rfl, _, _, rfl, _, _, rfl, rfl, ?_⟩
      have hq3 := s3 _ _ hq3
      have hp3 := s3 _ _ hp3
      generalize upd H' Tt (.tup [.int (i : Nat), .str ys[i]]) = H3 at g3 hq3 hp3 ⊢
      refine ⟨_, rfl, by show 1 ≤ sizeLine; decide, fun e he => ⟨_, rfl, _, rfl, _, rfl, _, _, rfl, SqL.of (Same.new he _ _ ((er_same _ _) _ _ hq3)), fun d hd => ?_⟩⟩
      have ec : cutV (ys.map V.str) none (some ((i : Nat) : Int)) = (ys.take i).map V.str := by
        unfold cutV
        rw [HT.sIx_none, HT.sIx_nat, List.drop_zero, Nat.sub_zero, List.map_take, List.length_map, Nat.min_eq_left (Nat.le_of_lt hi)]
      rw [ec]
      have g4 := (g3.new he (o := .lst [.str "clock"])).new hd (o := .lst ((ys.take i).map V.str))
      have h1 : upd (upd H3 e (.lst [.str "clock"])) d (.lst ((ys.take i).map V.str)) e = some (.lst [.str "clock"]) := by rw [upd_ne (ne_of_none upd_same hd), upd_same]
      have s4 : Same (er H3 st) (er (upd (upd H3 e (.lst [.str "clock"])) d (.lst ((ys.take i).map V.str))) st) := (er_mono (Same.new he)).trans (er_mono (Same.new hd))
      have h2 : upd (upd H3 e (.lst [.str "clock"])) d (.lst ((ys.take i).map V.str)) d = some (.lst ((ys.take i).map V.str)) := upd_same
      generalize upd (upd H3 e (.lst [.str "clock"])) d (.lst ((ys.take i).map V.str)) = H4 at g4 h1 h2 s4 ⊢
      have hil : (ys.take i).length ≤ 64 := by rw [List.length_take]; omega
      refine ⟨_, _, _, _, rfl, rfl, h1, h2, by show _ ≤ sizeLine; rw [List.length_map, List.length_singleton]; exact Nat.le_trans (show 1 + (ys.take i).length ≤ 65 by omega) (by decide), fun l hl => ?_⟩
      have ml := g4.sta.ne hl
      have g5 := g4.new hl (o := .lst ([.str "clock"] ++ (ys.take i).map V.str))
      have s5 := s4.trans (er_mono (st := st) (Same.new (o := .lst ([.str "clock"] ++ (ys.take i).map V.str)) hl))
      refine ⟨st, c, l, _, _, rfl, g5.sta, by omega, SqL.of (er_of ml upd_same), by simp, by simp; omega, fun j v H5 hv g6 => ?_⟩
      obtain ⟨h, rfl, hh⟩ : ∃ h : Str, v = V.str h ∧ (h = "clock" ∨ h ∈ ys.take i) := by
        have hm := List.mem_of_getElem? hv
        rcases List.mem_append.mp hm with z | z
        · exact ⟨_, List.mem_singleton.mp z, .inl rfl⟩
        · obtain ⟨h, hh, e⟩ := List.mem_map.mp z
          exact ⟨h, e.symm, .inr hh⟩
      have s6 := s5.trans g6.same
      have hp6 := s6 _ _ hp3
      have hq6 := s6 _ _ hq3
      have g7 := (g5.trans g6)
      have kl : rows.length = i := by
        have := congrArg List.length hks
        rw [ksR, List.length_map, List.length_take] at this
        omega
      have hk : (Sum.inr ys[i] : Key) ∉ (kvR rows).map (·.1) := by
        rw [kvR_keys, hks]
        intro m
        obtain ⟨z, hz, ez⟩ := List.mem_map.mp m
        exact not_in_take yN hi (by rw [← Sum.inr.inj ez]; exact hz)
      refine ⟨_, rfl, _, rfl, p, _, rfl, .inl ⟨kvR rows, .inr ys[i], (er_same _ _) _ _ hp6, rfl, by rw [kvR_len, kl]; exact Nat.lt_of_lt_of_le (show i < 65 by omega) (by decide), rfl⟩, ?_⟩
      rw [put_new _ _ _ hk, ← kvR_app]
      refine ⟨_, _, rows ++ [(ys[i], h)], rfl, (g7.le (by omega) (by omega)).set S.hc ep mp, ?_, ?_, ?_, hT.app (by rw [hks]; exact hh)⟩
      · rw [er_updp mp, upd_ne npq.symm]; exact hq6
      · rw [er_updp mp, upd_same]
      · rw [ksR_app, hks, List.take_succ, List.getElem?_eq_getElem hi]; rfl
    · rintro σ' H' ⟨x, y, rows, rfl, g, hq3, hp3, hks, hT⟩
      rw [List.length_map, List.take_length] at hks
      exact ⟨_, rfl, k p rows H' (by rw [hks]; exact hperm) hT (g.le (by rw [List.length_map]; omega) (by omega)) hp3 ep⟩
end
end K5
set_option Elab.async false
set_option linter.all false
set_option maxRecDepth 100000
set_option maxHeartbeats 4000000
namespace K5
open PySem L2
local macro_rules | `(tactic| walk_at "rd1") => `(tactic| first
  | refine ⟨_, _, rfl, rfl, ?_⟩
  | refine ⟨_, _, _, _, rfl, rfl, SqL.of (by assumption), rfl, ?_⟩
  | refine ⟨_, _, _, _, rfl, rfl, (by assumption), rfl, ?_⟩
  | refine .inl ⟨_, rfl, ?_⟩
  | refine ⟨_, rfl, ?_⟩
  | refine ⟨(by unfold CMul; omega), ?_⟩
  | refine ⟨(by unfold CPow; omega), ?_⟩
  | refine ⟨(by (try dsimp only); omega), ?_⟩
  | refine ⟨(by unfold CDiv; omega), ?_⟩
  | fail "rd1")
local macro_rules | `(tactic| walk_at "rd") => `(tactic| repeat' (walk_at "rd1"))
section
variable {P : Program} {w : World} {K : PySem.W.Frag} {mg : Str → Option Value} {base : Heap} {A : Ad}
/-- alike, of two texts -/
def spAlike : Sp := fun vs H Q _ => ∃ (a b : Str), vs = [.str a, .str b] ∧ Q (.bl (decide (V.str a = V.str b))) H
theorem ok_alike (T : Txt K mg A) : FnOk P w K mg base CX0 1 A.a_alike A.d_alike P_alike spAlike := by
  have G_alike : FnOk P w K mg base CX0 0 A.a_alike A.d_alike P_alike (fun _ _ _ _ => False) := no_fn fun _ _ _ _ h => h
  refine T.f_alike.ok sc_alike (fun vs H Q E h => ?_) (fun cdv A' outer s H vs Q E hr h => ?_)
  · obtain ⟨a, b, rfl, _⟩ := h
    rfl
  · obtain ⟨a, b, rfl, k⟩ := h
    refine ⟨_, (pss_cons (ps_if (PW.pt (pw_and (pt_val (pe_callB call_isi (by rfl) T.isinstance (by decide +kernel) (pa_cons (pv 0) (pa_cons (pe_bltn (v := .ty "tuple") (u := .type "tuple") (by rfl) T.tuple (by decide +kernel) rfl) pa_nil)))) (pw_and1 (pt_val (pe_callB call_isi (by rfl) T.isinstance (by decide +kernel) (pa_cons (pv 1) (pa_cons (pe_bltn (v := .ty "tuple") (u := .type "tuple") (by rfl) T.tuple (by decide +kernel) rfl) pa_nil)))))))
 (pss_cons (ps_if (pt_cmpR op_ne (pe_callB call_len_seq (by rfl) T.len PySem.boot_len (pa_cons (pv 0) pa_nil)) (pe_callB call_len_seq (by rfl) T.len PySem.boot_len (pa_cons (pv 1) pa_nil)) (nomark _))
 (pss_one (ps_ret pe_bl))
 pss_nil)
 (pss_one (ps_ret (pe_callB (cr_all rfl) (by rfl) T.all (by decide +kernel) (pa_cons (pe_lc (own := [("mine", 2), ("yours", 3)]) (g := gTup K 2 (gCons (gName 2) (gCons (gName 3) gNil))) (by rfl) sc_alike.nd (pi_zip (by rfl) T.zip (pa_cons (pv 0) (pa_cons (pv 1) pa_nil))) (blkOk_by (N := N_alike) (sc := defScope s_alike) (by decide +kernel)) (fun _ _ _ _ _ => (pg_tup rfl (pgs_cons (pg_name (i := 2) sc_alike.nd rfl (Or.inl rfl)) (pgs_cons (pg_name (i := 3) sc_alike.nd rfl (Or.inl rfl)) pgs_nil)))) (fun _ _ _ _ _ => pts_nil) (fun _ _ _ _ _ => (pe_call G_alike (hr.mono (by omega)) (by rfl) T.g_alike T.f_alike.kp T.b_alike .nil pass0 (pa_cons (pv 2) (pa_cons (pv 3) pa_nil))))) pa_nil)))))
 pss_nil)
 (pss_one (ps_ret (pe_and (pe_cmpR op_eq (pe_callB call_isi (by rfl) T.isinstance (by decide +kernel) (pa_cons (pv 0) (pa_cons (pe_bltn (v := .ty "bool") (u := .type "bool") (by rfl) T.bool (by decide +kernel) rfl) pa_nil))) (pe_callB call_isi (by rfl) T.isinstance (by decide +kernel) (pa_cons (pv 1) (pa_cons (pe_bltn (v := .ty "bool") (u := .type "bool") (by rfl) T.bool (by decide +kernel) rfl) pa_nil))) (nomark _)) (pe_one (pe_cmpR op_eq (pv 0) (pv 1) (nomark _))))))), ?_⟩
    refine ⟨_, rfl, _, _, .type "str", _, false, rfl, .ty _, .base (.str _), kit_ty (by decide +kernel), _, rfl, iteF ?_⟩
    refine ⟨_, rfl, _, _, .type "str", _, false, rfl, .ty _, .base (.str _), kit_ty (by decide +kernel), _, rfl, _, _, .type "str", _, false, rfl, .ty _, .base (.str _), kit_ty (by decide +kernel), rfl, _, rfl, iteT ⟨_, rfl, _, rfl, rfl, ?_⟩⟩
    exact k
end
end K5
set_option Elab.async false
set_option linter.all false
set_option maxRecDepth 100000
set_option maxHeartbeats 4000000
namespace K5
open PySem L2
local macro_rules | `(tactic| walk_at "rd1") => `(tactic| first
  | refine ⟨_, _, rfl, rfl, ?_⟩
  | refine ⟨_, _, _, _, rfl, rfl, SqL.of (by assumption), rfl, ?_⟩
  | refine ⟨_, _, _, _, rfl, rfl, (by assumption), rfl, ?_⟩
  | refine .inl ⟨_, rfl, ?_⟩
  | refine ⟨_, rfl, ?_⟩
  | refine ⟨(by unfold CMul; omega), ?_⟩
  | refine ⟨(by unfold CPow; omega), ?_⟩
  | refine ⟨(by (try dsimp only); omega), ?_⟩
  | refine ⟨(by unfold CDiv; omega), ?_⟩
  | fail "rd1")
local macro_rules | `(tactic| walk_at "rd") => `(tactic| repeat' (walk_at "rd1"))
section
variable {P : Program} {w : World} {K : PySem.W.Frag} {mg : Str → Option Value} {base : Heap} {A : Ad}
/-- each hangs on the clock or on one of a lesser rank -/
def Acy (rk : Str → Nat) (rows : Rows) : Prop := ∀ k h : Str, (k, h) ∈ rows → h = "clock" ∨ (h ∈ ksR rows ∧ rk h < rk k)
structure ROk (rk : Str → Nat) (rows : Rows) : Prop where
  nd : (ksR rows).Nodup
  nm : ∀ s ∈ ksR rows, Nm s ∧ PyData.strOk s = true
  len : rows.length < 64
  acy : Acy rk rows
  rkb : ∀ s ∈ ksR rows, rk s < 64
theorem ksR_len (rows : Rows) : (ksR rows).length = rows.length := by simp [ksR]
theorem kvR_nd {rows : Rows} (h : (ksR rows).Nodup) : ((kvR rows).map (·.1)).Nodup := by
  rw [kvR_keys]
  exact List.pairwise_map.mpr (h.imp fun n e => n (Sum.inr.inj e))
theorem kvR_at {rows : Rows} {i : Nat} {k : Key} {v : V} (h : (kvR rows)[i]? = some (k, v)) : ∃ a b : Str, k = .inr a ∧ v = .str b ∧ rows[i]? = some (a, b) := by
  unfold kvR at h
  rw [List.getElem?_map] at h
  cases e : rows[i]? with
  | none => rw [e] at h; cases h
  | some r => rw [e] at h; cases h; exact ⟨r.1, r.2, rfl, rfl, rfl⟩
theorem valR {rows : Rows} (nd : (ksR rows).Nodup) {k h : Str} (m : (k, h) ∈ rows) : valV (kvR rows) (.inr k) = some (.str h) := by
  obtain ⟨i, hi, e⟩ := List.getElem_of_mem m
  have : (kvR rows)[i]? = some (.inr k, .str h) := by
    unfold kvR
    rw [List.getElem?_map, List.getElem?_eq_getElem hi, e]; rfl
  exact valV_at (kvR_nd nd) this
theorem memR {rows : Rows} {k : Str} (m : k ∈ ksR rows) : ∃ h, (k, h) ∈ rows := by
  obtain ⟨r, hr, e⟩ := List.mem_map.mp m
  exact ⟨r.2, by rw [← e]; exact hr⟩
theorem memK {rows : Rows} {k h : Str} (m : (k, h) ∈ rows) : k ∈ ksR rows := List.mem_map.mpr ⟨_, m, rfl⟩
theorem memSnd {rows : Rows} (nd : (ksR rows).Nodup) {k h h' : Str} (m : (k, h) ∈ rows) (m' : (k, h') ∈ rows) : h = h' := by
  have a := valR nd m
  rw [valR nd m'] at a
  cases a
  rfl
def spHook : Sp := fun vs H Q _ => ∃ (h : Str) (d : Addr) (od : Obj) (kvs : List (Key × V)) (ks : List Str), vs = [.str h, .ref d] ∧ H d = some (.frz od (.dK kvs)) ∧ kvs.map (·.1) = ks.map Sum.inr ∧ ks.length < 64 ∧ (h = "clock" ∨ h ∈ ks) ∧ ∀ H', Same H H' → Q (.bl true) H'
theorem ok_hook (T : Txt K mg A) : FnOk P w K mg base CX0 2 A.a_is_hook A.d_is_hook P_is_hook spHook := by
  have G_alike : FnOk P w K mg base CX0 1 A.a_alike A.d_alike P_alike spAlike := ok_alike T
  refine T.f_is_hook.ok sc_is_hook (fun vs H Q E h => ?_) (fun cdv A' outer s H vs Q E hr h => ?_)
  · obtain ⟨h, d, od, kvs, ks, rfl, _⟩ := h
    rfl
  · obtain ⟨h, d, od, kvs, ks, rfl, hd, hks, hl, hh, k⟩ := h
    refine ⟨_, (pss_one (ps_ret (pe_or (pe_cmpR op_eq (pv 0) (pe_glob (v := .str "clock") (by rfl) T.g_CLOCK.choose_spec ⟨_, rfl⟩) (nomark _)) (pe_one (pe_callB (cr_any rfl) (by rfl) T.any (by decide +kernel) (pa_cons (pe_lc (own := [("key", 2)]) (g := gName 2) (by rfl) sc_is_hook.nd (pi_keys (pv 1)) (blkOk_by (N := N_is_hook) (sc := defScope s_is_hook) (by decide +kernel)) (fun _ _ _ _ _ => pg_name (i := 2) sc_is_hook.nd rfl (Or.inl rfl)) (fun _ _ _ _ _ => pts_nil) (fun _ _ _ _ _ => (pe_call G_alike (hr.mono (by omega)) (by rfl) T.g_alike T.f_alike.kp T.b_alike .nil pass0 (pa_cons (pv 0) (pa_cons (pv 2) pa_nil))))) pa_nil)))))), ?_⟩
    refine ⟨_, rfl, rfl, _, rfl, ite2 (fun q => k _ (Same.refl _)) (fun q => ?_)⟩
    have hm : h ∈ ks := hh.resolve_left fun e => q (by rw [e]; rfl)
    have hlen : kvs.length = ks.length := by have := congrArg List.length hks; rwa [List.length_map, List.length_map] at this
    refine ⟨_, rfl, d, od, rfl, .inl ⟨kvs, hd, fun D hD => lc_it walk_keys (fun i H' => Same H H' ∧ H' D = some (.lst (((ks.take i).map fun k => decide (V.str h = V.str k)).map V.bl))) ⟨Same.new hD, upd_same⟩ (fun i H' _ z => z.1 _ _ hd) ?_ (fun H' z => ?_)⟩⟩
    · rintro i x H' H'' hi ⟨s1, hD'⟩ ⟨rfl, key, v, hk, rfl⟩
      have hi2 : i < ks.length := by rw [← hlen]; exact hi
      have ek : (kvs.map (·.1))[i]? = some key := by rw [List.getElem?_map, hk]; rfl
      rw [hks, List.getElem?_map, List.getElem?_eq_getElem hi2] at ek
      obtain rfl : Sum.inr ks[i] = key := Option.some.inj ek
      refine ⟨rfl, _, rfl, _, rfl, h, ks[i], rfl, _, hD', ?_, ?_, ?_⟩
      · rw [List.length_map, List.length_map, List.length_take]
        exact Nat.lt_of_le_of_lt (show min i _ ≤ 64 by omega) (by decide)
      · exact fun b u e => by rw [upd_ne (ne_of_none e hD)]; exact s1 _ _ e
      · rw [upd_same, List.take_succ, List.getElem?_eq_getElem hi2, List.map_append, List.map_append]; rfl
    · obtain ⟨s1, hD'⟩ := z
      refine ⟨D, _, rfl, SqL.of hD', ?_⟩
      have e : (((ks.take kvs.length).map fun k => decide (V.str h = V.str k)).any id) = true := by
        rw [List.take_of_length_le (by omega), List.any_map, List.any_eq_true]
        exact ⟨h, hm, decide_eq_true rfl⟩
      rw [e]
      exact k _ s1
def spChkR : Sp := fun vs H Q _ => ∃ (dd : Addr) (rk : Str → Nat) (rows : Rows), vs = [.ref dd] ∧ H dd = some (.dK (kvR rows)) ∧ ROk rk rows ∧ ∀ H', Same H H' → Q .non H'
theorem ok_chkr (T : Txt K mg A) : FnOk P w K mg base CX0 3 A.a_check_rows A.d_check_rows P_check_rows spChkR := by
  have G_is_name : FnOk P w K mg base CX0 1 A.a_is_name A.d_is_name P_is_name spIsName := ok_isname T
  have G_is_hook : FnOk P w K mg base CX0 2 A.a_is_hook A.d_is_hook P_is_hook spHook := ok_hook T
  refine T.f_check_rows.ok sc_check_rows (fun vs H Q E h => ?_) (fun cdv A' outer s H vs Q E hr h => ?_)
  · obtain ⟨dd, rk, rows, rfl, _⟩ := h
    rfl
  · obtain ⟨dd, rk, rows, rfl, hd, hO, k⟩ := h
    refine ⟨_, (pss_one (ps_lock (ps_for PassesOwn.never rfl (pi_keys (pv 0)) (pg_name (i := 1) sc_check_rows.nd rfl (Or.inl rfl))
 (pss_one (ps_if (PW.pt (pw_or (pt_not (pt_val (pe_call G_is_name (hr.mono (by omega)) (by rfl) T.g_is_name T.f_is_name.kp T.b_is_name .nil pass0 (pa_cons (pv 1) pa_nil)))) (pw_or1 (pt_not (pt_val (pe_call G_is_hook (hr.mono (by omega)) (by rfl) T.g_is_hook T.f_is_hook.kp T.b_is_hook .nil pass0 (pa_cons (pe_dget (hu_of hr) (pv 0) (pv 1) (fun _ _ => rfl)) (pa_cons (pv 0) pa_nil))))))))
 (pss_one ps_never)
 pss_nil))))), ?_⟩
    refine ⟨dd, _, hd, trivial, fun od => ?_⟩
    refine ⟨_, rfl, dd, od, rfl, .inl ⟨kvR rows, upd_same, for_it walk_keys (fun i σ' H' => ∃ x, σ' = [some (.ref dd), x] ∧ Same (upd H dd (.frz od (.dK (kvR rows)))) H') ⟨none, rfl, Same.refl _⟩ (fun i σ' H' _ ⟨_, _, s⟩ => s _ _ upd_same) ?_ ?_⟩⟩
    · rintro i x σ' H' H'' hi ⟨y, rfl, s1⟩ ⟨rfl, key, v, hk, rfl⟩
      obtain ⟨a, b, rfl, rfl, hr2⟩ := kvR_at hk
      have hm := List.mem_of_getElem? hr2
      refine ⟨_, rfl, a, rfl, (hO.nm a (memK hm)).1, fun H2 s2 => ⟨_, rfl, iteF ?_⟩⟩
      have hd2 : H2 dd = some (.frz od (.dK (kvR rows))) := s2 _ _ (s1 _ _ upd_same)
      refine ⟨_, rfl, _, rfl, dd, .str b, rfl, .inl ⟨kvR rows, .inr a, .inr ⟨od, hd2⟩, rfl, (valR hO.nd hm).symm⟩, _, rfl, b, dd, od, _, ksR rows, rfl, hd2, kvR_keys rows, by rw [ksR_len]; exact hO.len, (hO.acy a b hm).imp_right And.left, fun H3 s3 => ⟨_, rfl, iteF ?_⟩⟩
      exact ⟨_, rfl, (s1.trans s2).trans s3⟩
    · rintro σ' H' ⟨x, rfl, s1⟩
      refine ⟨s1 _ _ upd_same, k _ fun b u e => ?_⟩
      by_cases hb : b = dd
      · subst hb
        rw [hd] at e
        cases e
        exact upd_same
      · rw [upd_ne hb]
        exact s1 _ _ (by rw [upd_ne hb]; exact e)
end
end K5
set_option Elab.async false
set_option linter.all false
set_option maxRecDepth 100000
set_option maxHeartbeats 4000000
namespace K5
open PySem L2
local macro_rules | `(tactic| walk_at "rd1") => `(tactic| first
  | refine ⟨_, _, rfl, rfl, ?_⟩
  | refine ⟨_, _, _, _, rfl, rfl, SqL.of (by assumption), rfl, ?_⟩
  | refine ⟨_, _, _, _, rfl, rfl, (by assumption), rfl, ?_⟩
  | refine .inl ⟨_, rfl, ?_⟩
  | refine ⟨_, rfl, ?_⟩
  | refine ⟨(by unfold CMul; omega), ?_⟩
  | refine ⟨(by unfold CPow; omega), ?_⟩
  | refine ⟨(by (try dsimp only); omega), ?_⟩
  | refine ⟨(by unfold CDiv; omega), ?_⟩
  | fail "rd1")
local macro_rules | `(tactic| walk_at "rd") => `(tactic| repeat' (walk_at "rd1"))
section
variable {P : Program} {w : World} {K : PySem.W.Frag} {mg : Str → Option Value} {base : Heap} {A : Ad}
/-- what a climb may stand at, below the dish nm -/
def At (rk : Str → Nat) (rows : Rows) (nm h : Str) : Prop := h = "clock" ∨ (h ∈ ksR rows ∧ rk h < rk nm)
def msr (rk : Str → Nat) (h : Str) : Nat := if h = "clock" then 0 else rk h + 1
def spFrom : Sp := fun vs H Q _ => ∃ (nm : Str) (d : Addr) (rk : Str → Nat) (rows : Rows), vs = [.str nm, .ref d] ∧ H d = some (.dK (kvR rows)) ∧ ROk rk rows ∧ nm ∈ ksR rows ∧
  ∀ (p : Addr) (H' : Hp), Same H H' → H p = none → H' p = some (.lst []) → Q (.ref p) H'
theorem ok_from (T : Txt K mg A) : FnOk P w K mg base CX0 1 A.a_round_from A.d_round_from P_round_from spFrom := by
  refine T.f_round_from.ok sc_round_from (fun vs H Q E h => ?_) (fun cdv A' outer s H vs Q E hr h => ?_)
  · obtain ⟨nm, d, rk, rows, rfl, _⟩ := h
    rfl
  · obtain ⟨nm, d, rk, rows, rfl, hd, hO, hn, k⟩ := h
    refine ⟨_, (pss_cons (ps_set (i := 2) sc_round_from.nd rfl (Or.inl rfl) (pe_lst (pa_cons (pv 0) pa_nil)))
 (pss_cons (ps_set (i := 3) sc_round_from.nd rfl (Or.inl rfl) (pe_dget (hu_of hr) (pv 1) (pv 0) (fun _ _ => rfl)))
 (pss_cons (ps_while PassesOwn.never (PW.pt (pw_and (pt_cmpR op_ne (pv 3) (pe_glob (v := .str "clock") (by rfl) T.g_CLOCK.choose_spec ⟨_, rfl⟩) (nomark _)) (pw_and (pt_cmpR op_ne (pv 3) (pv 0) (nomark _)) (pw_and1 (pt_cmpR op_lt (pe_callB call_len_seq (by rfl) T.len PySem.boot_len (pa_cons (pv 2) pa_nil)) (pe_callB call_lenD (by rfl) T.len PySem.boot_len (pa_cons (pv 1) pa_nil)) (nomark _))))))
 (pss_cons (ps_expr (pe_bm PySem.F.plainAttrs_list PySem.F.slot_list_append PySem.F.type_list_append mt_append (pv 2) (pa_cons (pv 3) pa_nil)))
 (pss_one (ps_set (i := 3) sc_round_from.nd rfl (Or.inl rfl) (pe_dget (hu_of hr) (pv 1) (pv 3) (fun _ _ => rfl))))))
 (pss_one (ps_ret (pe_ifExp (pt_cmpR op_eq (pv 3) (pv 0) (nomark _)) (pv 2) (pe_lst pa_nil))))))), ?_⟩
    obtain ⟨h0, hm0⟩ := memR hn
    refine ⟨_, rfl, by show 1 ≤ sizeLine; decide, fun p hp => ?_⟩
    have s0 : Same H (upd H p (.lst [.str nm])) := Same.new hp
    refine ⟨_, rfl, _, rfl, d, _, rfl, .inl ⟨kvR rows, .inr nm, .inl (s0 _ _ hd), rfl, (valR hO.nd hm0).symm⟩, ?_⟩
    have npd : d ≠ p := ne_of_none hd hp
    refine while_ex (fun mm σ' H' => ∃ (xs : List V) (h : Str), σ' = [some (.str nm), some (.ref d), some (.ref p), some (.str h)] ∧ Same H H' ∧ H' p = some (.lst xs) ∧ At rk rows nm h ∧ mm = msr rk h)
      (fun σ' H' => ∃ (h : Str), σ' = [some (.str nm), some (.ref d), some (.ref p), some (.str h)] ∧ Same H H' ∧ At rk rows nm h)
      ⟨_, h0, rfl, s0, upd_same, hO.acy _ _ hm0, rfl⟩ (fun nx hnx => ?_) ?_
    · rintro mm σ' H' ⟨xs, h, rfl, s1, hp1, hat, rfl⟩
      refine ⟨_, rfl, rfl, _, rfl, ite2 (fun c1 => ?_) (fun _ => hnx _ _ ⟨h, rfl, s1, hat⟩)⟩
      have hne : h ≠ "clock" := fun e => by rw [e] at c1; cases c1
      obtain ⟨hin, hlt⟩ := hat.resolve_left hne
      refine ⟨_, rfl, _, rfl, rfl, _, rfl, ite2 (fun c2 => ?_) (fun _ => hnx _ _ ⟨h, rfl, s1, hat⟩)⟩
      refine ⟨_, rfl, _, _, rfl, .inl (SqL.of hp1), _, rfl, d, _, rfl, s1 _ _ hd, _, _, rfl, rfl, _, rfl, ite2 (fun c3 => ?_) (fun _ => hnx _ _ ⟨h, rfl, s1, hat⟩)⟩
      have hl : xs.length < 64 := by
        have q := of_decide_eq_true c3
        have := hO.len
        rw [kvR_len] at q
        omega
      obtain ⟨h2, hm2⟩ := memR hin
      refine ⟨_, fun _ _ z => z, ?_⟩
      refine ⟨_, rfl, .inl ⟨rfl, _, SqL.of hp1⟩, _, rfl, _, _, _, rfl, rfl, hp1, Nat.lt_of_lt_of_le hl (by decide), ?_⟩
      have s2 : Same H (upd H' p (.lst (xs ++ [.str h]))) := fun b u e => by rw [upd_ne (ne_of_none e hp)]; exact s1 _ _ e
      refine ⟨_, rfl, _, rfl, d, _, rfl, .inl ⟨kvR rows, .inr h, .inl (s2 _ _ hd), rfl, (valR hO.nd hm2).symm⟩, ?_⟩
      refine ⟨msr rk h2, ?_, _, h2, rfl, s2, upd_same, ?_, rfl⟩
      · unfold msr
        rw [if_neg hne]
        rcases hO.acy _ _ hm2 with e | e
        · rw [if_pos e]; omega
        · split
          · omega
          · have := e.2; omega
      · exact (hO.acy _ _ hm2).imp_right fun e => ⟨e.1, Nat.lt_trans e.2 hlt⟩
    · rintro σ' H' ⟨h, rfl, s1, hat⟩
      have hne : h ≠ nm := fun e => by
        rcases hat with q | q
        · exact (hO.nm nm hn).1.noclock (e.symm.trans q)
        · rw [e] at q; exact Nat.lt_irrefl _ q.2
      refine ⟨_, rfl, _, rfl, rfl, _, rfl, ite2 (fun q => absurd (V.str.inj (of_decide_eq_true q)) hne) (fun _ => ⟨Nat.zero_le _, fun q hq => ?_⟩)⟩
      exact k q _ (s1.trans (Same.new hq)) (s1.free hq) upd_same
def spRounds : Sp := fun vs H Q _ => ∃ (dd : Addr) (rk : Str → Nat) (rows : Rows), vs = [.ref dd] ∧ H dd = some (.dK (kvR rows)) ∧ ROk rk rows ∧ ∀ H', Same H H' → Q .non H'
theorem ok_rounds (T : Txt K mg A) : FnOk P w K mg base CX0 2 A.a_check_rounds A.d_check_rounds P_check_rounds spRounds := by
  have G_round_from : FnOk P w K mg base CX0 1 A.a_round_from A.d_round_from P_round_from spFrom := ok_from T
  refine T.f_check_rounds.ok sc_check_rounds (fun vs H Q E h => ?_) (fun cdv A' outer s H vs Q E hr h => ?_)
  · obtain ⟨dd, rk, rows, rfl, _⟩ := h
    rfl
  · obtain ⟨dd, rk, rows, rfl, hd, hO, k⟩ := h
    refine ⟨_, (pss_one (ps_for PassesOwn.never rfl (pi_list (pe_callB (call_sortedD rfl) (by rfl) T.sorted (by decide +kernel) (pa_cons (pv 0) pa_nil))) (pg_name (i := 1) sc_check_rounds.nd rfl (Or.inl rfl))
 (pss_cons (ps_set (i := 2) sc_check_rounds.nd rfl (Or.inl rfl) (pe_call G_round_from (hr.mono (by omega)) (by rfl) T.g_round_from T.f_round_from.kp T.b_round_from .nil pass0 (pa_cons (pv 1) (pa_cons (pv 0) pa_nil))))
 (pss_one (ps_if (pt_truth (pv 2) (by intro _; rfl))
 (pss_one ps_never)
 pss_nil))))), ?_⟩
    refine ⟨_, rfl, dd, _, ksR rows, rfl, .inl hd, kvR_keys rows, by rw [ksR_len]; exact hO.len, fun ys q hperm _ hq => ?_⟩
    refine ⟨q, rfl, ⟨_, SqL.of upd_same⟩, for_it walk_list (fun i σ' H' => ∃ x y, σ' = [some (.ref dd), x, y] ∧ Same (upd H q (.lst (ys.map V.str))) H') ⟨_, _, rfl, Same.refl _⟩ (fun i σ' H' _ z => SqL.of (z.choose_spec.choose_spec.2 _ _ upd_same)) ?_ ?_⟩
    · rintro i v σ' H' H'' hi ⟨x, y, rfl, s1⟩ ⟨rfl, hx⟩
      obtain ⟨hi, rfl⟩ := str_at hx
      have S1 : Same H H'' := (Same.new hq).trans s1
      refine ⟨_, rfl, _, rfl, ys[i], dd, rk, rows, rfl, S1 _ _ hd, hO, hperm.mem_iff.mp (List.getElem_mem hi), fun p H3 s3 hp hp3 => ?_⟩
      refine ⟨_, rfl, false, ?_, iteF ?_⟩
      · exact .inl ⟨_, SqL.of hp3, rfl⟩
      · exact ⟨_, _, rfl, s1.trans s3⟩
    · rintro σ' H' ⟨x, y, rfl, s1⟩
      exact k _ ((Same.new hq).trans s1)
end
end K5
set_option Elab.async false
set_option linter.all false
set_option maxRecDepth 100000
set_option maxHeartbeats 4000000
namespace K5
open PySem L2
local macro_rules | `(tactic| walk_at "rd1") => `(tactic| first
  | refine ⟨_, _, rfl, rfl, ?_⟩
  | refine ⟨_, _, _, _, rfl, rfl, SqL.of (by assumption), rfl, ?_⟩
  | refine ⟨_, _, _, _, rfl, rfl, (by assumption), rfl, ?_⟩
  | refine .inl ⟨_, rfl, ?_⟩
  | refine ⟨_, rfl, ?_⟩
  | refine ⟨(by unfold CMul; omega), ?_⟩
  | refine ⟨(by unfold CPow; omega), ?_⟩
  | refine ⟨(by (try dsimp only); omega), ?_⟩
  | refine ⟨(by unfold CDiv; omega), ?_⟩
  | fail "rd1")
local macro_rules | `(tactic| walk_at "rd") => `(tactic| repeat' (walk_at "rd1"))
section
variable {P : Program} {w : World} {K : PySem.W.Frag} {mg : Str → Option Value} {base : Heap} {A : Ad}
/-- the same rows, ascending -/
structure Asc (rows rs : Rows) : Prop where
  keys : (ksR rs).Perm (ksR rows)
  mem : ∀ k h, (k, h) ∈ rs → (k, h) ∈ rows
  asc : PyProof.Rows.sortedS (ksR rs) = true
theorem Asc.ok {rk : Str → Nat} {rows rs : Rows} (a : Asc rows rs) (h : ROk rk rows) : ROk rk rs := by
  have l := a.keys.length_eq
  rw [ksR_len, ksR_len] at l
  exact ⟨a.keys.nodup_iff.mpr h.nd, fun s m => h.nm s (a.keys.mem_iff.mp m), by rw [l]; exact h.len, fun k b m => (h.acy k b (a.mem k b m)).imp_right fun e => ⟨a.keys.mem_iff.mpr e.1, e.2⟩, fun s m => h.rkb s (a.keys.mem_iff.mp m)⟩
/-- an instance of Hanging at p -/
structure HgAt (C : Addr) (H : Hp) (p q : Addr) (rs : Rows) : Prop where
  ex : ∃ dx, H p = some (.ins C dx [("hooks", .ref q)])
  at_ : H q = some (.dK (kvR rs))
theorem HgAt.up {C : Addr} {H H' : Hp} {p q : Addr} {rs : Rows} (h : HgAt C H p q rs) (s : Same H H') : HgAt C H' p q rs := ⟨h.ex.imp fun _ e => s _ _ e, s _ _ h.at_⟩
def spHInit (C : Addr) : Sp := fun vs H Q _ => ∃ (p dx dd : Addr) (rk : Str → Nat) (rows : Rows), vs = [.ref p, .ref dd] ∧ H p = some (.ins C dx []) ∧ H dd = some (.dK (kvR rows)) ∧ ROk rk rows ∧
  ∀ (H' : Hp) (q : Addr) (rs : Rows), HgAt C H' p q rs → H q = none → Asc rows rs → Same (er H p) (er H' p) → Q .non H'
theorem ok_hinit (T : Txt K mg A) : FnOk P w K mg base CX0 4 A.a_Hanging___init__ A.d_Hanging___init__ P_Hanging___init__ (spHInit A.a_Hanging) := by
  have G_check_rows : FnOk P w K mg base CX0 3 A.a_check_rows A.d_check_rows P_check_rows spChkR := ok_chkr T
  have G_check_rounds : FnOk P w K mg base CX0 2 A.a_check_rounds A.d_check_rounds P_check_rounds spRounds := ok_rounds T
  refine T.f_Hanging___init__.ok sc_Hanging___init__ (fun vs H Q E h => ?_) (fun cdv A' outer s H vs Q E hr h => ?_)
  · obtain ⟨p, dx, dd, rk, rows, rfl, _⟩ := h
    rfl
  · obtain ⟨p, dx, dd, rk, rows, rfl, hp, hd, hO, k⟩ := h
    refine ⟨_, PSs.nox (pss_cons (ps_expr (pe_call G_check_rows (hr.mono (by omega)) (by rfl) T.g_check_rows T.f_check_rows.kp T.b_check_rows .nil pass0 (pa_cons (pv 1) pa_nil)))
 (pss_cons (ps_expr (pe_call G_check_rounds (hr.mono (by omega)) (by rfl) T.g_check_rounds T.f_check_rounds.kp T.b_check_rounds .nil pass0 (pa_cons (pv 1) pa_nil)))
 (pss_one (ps_fld (pv 0) (pe_dc (own := [("name", 2)]) (g := gName 2) (by rfl) sc_Hanging___init__.nd (pi_list (pe_callB (call_sortedD rfl) (by rfl) T.sorted (by decide +kernel) (pa_cons (pv 1) pa_nil))) (blkOk_by (N := N_Hanging___init__) (sc := defScope s_Hanging___init__) (by decide +kernel)) (fun _ _ _ _ _ => pg_name (i := 2) sc_Hanging___init__.nd rfl (Or.inl rfl)) (fun _ _ _ _ _ => pts_nil) (fun _ _ _ _ _ => (pv 2)) (fun _ _ _ _ _ => (pe_dget (hu_of hr) (pv 1) (pv 2) (fun _ _ => rfl)))) rfl)))), ?_⟩
    have npd : dd ≠ p := ne_of hd hp (fun z => nomatch z)
    refine ⟨_, rfl, dd, rk, rows, rfl, hd, hO, fun H1 s1 => ?_⟩
    refine ⟨_, rfl, dd, rk, rows, rfl, s1 _ _ hd, hO, fun H2 s2 => ?_⟩
    have S2 := s1.trans s2
    have hd2 := S2 _ _ hd
    refine ⟨_, rfl, dd, _, ksR rows, rfl, .inl hd2, kvR_keys rows, by rw [ksR_len]; exact hO.len, fun ys q hperm hsort hq => ?_⟩
    have yN : ys.Nodup := hperm.nodup_iff.mpr hO.nd
    have yl : ys.length < 64 := by rw [hperm.length_eq, ksR_len]; exact hO.len
    refine ⟨q, rfl, ⟨_, SqL.of upd_same⟩, fun D hD => fillD walk_list (fun i H' => Same (upd H2 q (.lst (ys.map V.str))) H' ∧ ∃ rs : Rows, H' D = some (.dK (kvR rs)) ∧ ksR rs = ys.take i ∧ ∀ k h, (k, h) ∈ rs → (k, h) ∈ rows) ⟨Same.new hD, [], upd_same, rfl, fun _ _ m => by cases m⟩ (fun i H' _ h => SqL.of (h.1 _ _ upd_same)) ?_ (fun H4 h4 => ?_)⟩
    · rintro i x H' H'' hi ⟨s4, rs, hrs, hks, hsub⟩ ⟨rfl, hx⟩
      obtain ⟨hi, rfl⟩ := str_at hx
      have hm : ys[i] ∈ ksR rows := hperm.mem_iff.mp (List.getElem_mem hi)
      obtain ⟨h, hh⟩ := memR hm
      have S4 : Same H H'' := S2.trans ((Same.new hq).trans s4)
      have kl : rs.length = i := by
        have := congrArg List.length hks
        rw [ksR_len, List.length_take] at this
        omega
      have hk : (Sum.inr ys[i] : Key) ∉ (kvR rs).map (·.1) := by
        rw [kvR_keys, hks]
        intro m
        obtain ⟨z, hz, ez⟩ := List.mem_map.mp m
        exact not_in_take yN hi (by rw [← Sum.inr.inj ez]; exact hz)
      refine ⟨rfl, _, rfl, _, rfl, _, rfl, dd, .str h, rfl, .inl ⟨kvR rows, .inr ys[i], .inl (S4 _ _ hd), rfl, (valR hO.nd hh).symm⟩, kvR rs, .inr ys[i], rfl, hrs, ?_, ?_, ?_⟩
      · rw [kvR_len, kl]; exact Nat.lt_of_lt_of_le (show i < 65 by omega) (by decide)
      · exact fun c u e => by rw [upd_ne (ne_of_none e hD)]; exact s4 _ _ e
      · rw [put_new _ _ _ hk, ← kvR_app]
        refine ⟨_, upd_same, ?_, fun a b m => ?_⟩
        · rw [ksR_app, hks, List.take_succ, List.getElem?_eq_getElem hi]; rfl
        · rcases List.mem_append.mp m with m | m
          · exact hsub a b m
          · cases List.mem_singleton.mp m; exact hh
    · obtain ⟨s4, rs, hrs, hks, hsub⟩ := h4
      rw [List.length_map, List.take_length] at hks
      have S4 : Same H H4 := S2.trans ((Same.new hq).trans s4)
      have hp4 := S4 _ _ hp
      have nDp : D ≠ p := fun e => by rw [e, hp4] at hrs; cases hrs
      refine ⟨_, rfl, p, A.a_Hanging, dx, _, rfl, hp4, T.cl, T.nH, by decide, ?_⟩
      refine k _ D rs ⟨⟨dx, upd_same⟩, by rw [upd_ne nDp]; exact hrs⟩ (((S2.trans (Same.new hq))).free hD) ⟨by rw [hks]; exact hperm, hsub, by rw [hks]; exact hsort⟩ ?_
      rw [er_upd]; exact er_mono S4
def spHRows (C : Addr) : Sp := fun vs H Q _ => ∃ (p q : Addr) (rs : Rows), vs = [.ref p] ∧ HgAt C H p q rs ∧ ∀ l, H l = none → Q (.ref l) (upd H l (.dK (kvR rs)))
theorem ok_hrows (T : Txt K mg A) : FnOk P w K mg base CX0 1 A.a_Hanging_rows A.d_Hanging_rows P_Hanging_rows (spHRows A.a_Hanging) := by
  refine T.f_Hanging_rows.ok sc_Hanging_rows (fun vs H Q E h => ?_) (fun cdv A' outer s H vs Q E hr h => ?_)
  · obtain ⟨p, q, rs, rfl, _⟩ := h
    rfl
  · obtain ⟨p, q, rs, rfl, ⟨⟨dx, hp⟩, hq⟩, k⟩ := h
    refine ⟨_, (pss_one (ps_ret (pe_callTy call_dictD (by rfl) T.dict (by decide +kernel) (pa_cons (pe_fld (pv 0) rfl) pa_nil)))), ?_⟩
    exact ⟨_, rfl, p, A.a_Hanging, dx, _, _, rfl, hp, T.cl, T.nH, rfl, q, _, rfl, .inl hq, k⟩
end
end K5
set_option Elab.async false
set_option linter.all false
set_option maxRecDepth 100000
set_option maxHeartbeats 4000000
namespace K5
open PySem L2
local macro_rules | `(tactic| walk_at "rd1") => `(tactic| first
  | refine ⟨_, _, rfl, rfl, ?_⟩
  | refine ⟨_, _, _, _, rfl, rfl, SqL.of (by assumption), rfl, ?_⟩
  | refine ⟨_, _, _, _, rfl, rfl, (by assumption), rfl, ?_⟩
  | refine .inl ⟨_, rfl, ?_⟩
  | refine ⟨_, rfl, ?_⟩
  | refine ⟨(by unfold CMul; omega), ?_⟩
  | refine ⟨(by unfold CPow; omega), ?_⟩
  | refine ⟨(by (try dsimp only); omega), ?_⟩
  | refine ⟨(by unfold CDiv; omega), ?_⟩
  | fail "rd1")
local macro_rules | `(tactic| walk_at "rd") => `(tactic| repeat' (walk_at "rd1"))
section
variable {P : Program} {w : World} {K : PySem.W.Frag} {mg : Str → Option Value} {base : Heap} {A : Ad}
inductive Path (rows : Rows) : Str → List Str → Prop
  | clock : Path rows "clock" []
  | step {h h2 : Str} {ws : List Str} (ne : h ≠ "clock") (m : (h, h2) ∈ rows) (r : Path rows h2 ws) : Path rows h (h :: ws)
theorem Path.det {rows : Rows} (nd : (ksR rows).Nodup) : ∀ {h : Str} {ws ws' : List Str}, Path rows h ws → Path rows h ws' → ws = ws'
  | _, _, _, .clock, .clock => rfl
  | _, _, _, .clock, .step ne _ _ => absurd rfl ne
  | _, _, _, .step ne _ _, .clock => absurd rfl ne
  | _, _, _, .step _ m r, .step _ m' r' => by
    cases memSnd nd m m'
    rw [r.det nd r']
theorem path_ex {rk : Str → Nat} {rows : Rows} (O : ROk rk rows) : ∀ (n : Nat) (h : Str), msr rk h ≤ n → (h = "clock" ∨ h ∈ ksR rows) → ∃ ws, Path rows h ws ∧ ws.length ≤ msr rk h := by
  intro n
  induction n with
  | zero =>
    intro h hn hh
    have e : h = "clock" := Decidable.byContradiction fun z => by unfold msr at hn; rw [if_neg z] at hn; omega
    subst e
    exact ⟨[], .clock, Nat.zero_le _⟩
  | succ n ih =>
    intro h hn hh
    by_cases e : h = "clock"
    · subst e; exact ⟨[], .clock, Nat.zero_le _⟩
    · obtain ⟨h2, m⟩ := memR (hh.resolve_left e)
      have lt : msr rk h2 + 1 ≤ msr rk h := by
        have := O.acy _ _ m
        unfold msr
        rw [if_neg e]
        rcases this with q | q
        · rw [if_pos q]; omega
        · split
          · omega
          · have := q.2; omega
      obtain ⟨ws, p, l⟩ := ih h2 (by omega) ((O.acy _ _ m).imp_right And.left)
      exact ⟨h :: ws, .step e m p, by rw [List.length_cons]; omega⟩
theorem msr_le {rk : Str → Nat} {rows : Rows} (O : ROk rk rows) {h : Str} (hh : h = "clock" ∨ h ∈ ksR rows) : msr rk h ≤ 64 := by
  unfold msr
  split
  · omega
  · rename_i e
    have := O.rkb h (hh.resolve_left e)
    omega
/-- the way of a dish, from its hook on -/
def Way (rows : Rows) (nm : Str) (ws : List Str) : Prop := ∃ h, (nm, h) ∈ rows ∧ Path rows h ws ∧ ws.length ≤ 64
theorem way_ex {rk : Str → Nat} {rows : Rows} (O : ROk rk rows) {nm : Str} (hm : nm ∈ ksR rows) : ∃ ws, Way rows nm ws := by
  obtain ⟨h, m⟩ := memR hm
  have hh := (O.acy _ _ m).imp_right And.left
  obtain ⟨ws, p, l⟩ := path_ex O _ h (Nat.le_refl _) hh
  exact ⟨ws, h, m, p, Nat.le_trans l (msr_le O hh)⟩
def spWayUp : Sp := fun vs H Q _ => ∃ (q : Addr) (rs : Rows) (nm : Str) (ws : List Str), vs = [.str nm, .ref q] ∧ H q = some (.dK (kvR rs)) ∧ (ksR rs).Nodup ∧ Way rs nm ws ∧ ∀ l H', Same H H' → H l = none → H' l = some (.lst (ws.reverse.map V.str)) → Q (.ref l) H'
theorem ok_wayup (T : Txt K mg A) : FnOk P w K mg base CX0 1 A.a_way_up A.d_way_up P_way_up spWayUp := by
  refine T.f_way_up.ok sc_way_up (fun vs H Q E h => ?_) (fun cdv A' outer s H vs Q E hr h => ?_)
  · obtain ⟨q, rs, nm, ws, rfl, _⟩ := h
    rfl
  · obtain ⟨q, rs, nm, ws, rfl, hq, nd, ⟨h, m, pa, hl⟩, k⟩ := h
    refine ⟨_, (pss_cons (ps_set (i := 2) sc_way_up.nd rfl (Or.inl rfl) (pe_lst pa_nil))
 (pss_cons (ps_set (i := 3) sc_way_up.nd rfl (Or.inl rfl) (pe_dget (hu_of hr) (pv 1) (pv 0) (fun _ _ => rfl)))
 (pss_cons (ps_while PassesOwn.never (pt_cmpR op_ne (pv 3) (pe_glob (v := .str "clock") (by rfl) T.g_CLOCK.choose_spec ⟨_, rfl⟩) (nomark _))
 (pss_cons (ps_expr (pe_bm PySem.F.plainAttrs_list PySem.F.slot_list_append PySem.F.type_list_append mt_append (pv 2) (pa_cons (pv 3) pa_nil)))
 (pss_one (ps_set (i := 3) sc_way_up.nd rfl (Or.inl rfl) (pe_dget (hu_of hr) (pv 1) (pv 3) (fun _ _ => rfl))))))
 (pss_one (ps_ret (pe_revL (pv 2))))))), ?_⟩
    refine ⟨Nat.zero_le _, fun l nl => ?_⟩
    have s0 : Same H (upd H l (.lst [])) := Same.new nl
    refine ⟨_, rfl, _, rfl, q, _, rfl, .inl ⟨kvR rs, .inr nm, .inl (s0 _ _ hq), rfl, (valR nd m).symm⟩, ?_⟩
    refine while_ex (fun mm σ' H' => ∃ (as bs : List Str) (h : Str), σ' = [some (.str nm), some (.ref q), some (.ref l), some (.str h)] ∧ Same H H' ∧ H' l = some (.lst (as.map V.str)) ∧ as ++ bs = ws ∧ Path rs h bs ∧ mm = bs.length)
        (fun σ' H' => ∃ (u : V), σ' = [some (.str nm), some (.ref q), some (.ref l), some u] ∧ Same H H' ∧ H' l = some (.lst (ws.map V.str)))
        ⟨[], ws, h, rfl, s0, upd_same, rfl, pa, rfl⟩ (fun nx hnx => ?_) ?_
    · rintro mm σ' H' ⟨as, bs, h, rfl, s1, hl1, hab, pb, rfl⟩
      refine ⟨_, rfl, rfl, _, rfl, ite2 (fun c1 => ?_) (fun c1 => ?_)⟩
      · cases pb with
        | clock => cases c1
        | @step _ h2 bs' ne m2 r =>
          refine ⟨_, fun _ _ z => z, ?_⟩
          have la : as.length < 64 := by
            have := congrArg List.length hab
            rw [List.length_append, List.length_cons] at this
            omega
          refine ⟨_, rfl, .inl ⟨rfl, _, SqL.of hl1⟩, _, rfl, _, _, _, rfl, rfl, hl1, by rw [List.length_map]; exact Nat.lt_of_lt_of_le la (by decide), ?_⟩
          have s2 : Same H (upd H' l (.lst (as.map V.str ++ [.str h]))) := fun b u e => by rw [upd_ne (ne_of_none e nl)]; exact s1 _ _ e
          refine ⟨_, rfl, _, rfl, q, _, rfl, .inl ⟨kvR rs, .inr h, .inl (s2 _ _ hq), rfl, (valR nd m2).symm⟩, ?_⟩
          exact ⟨bs'.length, Nat.lt_succ_self _, as ++ [h], bs', h2, rfl, s2, by rw [upd_same, List.map_append]; rfl, by rw [List.append_assoc]; exact hab, r, rfl⟩
      · cases pb with
        | clock =>
          rw [List.append_nil] at hab
          subst hab
          exact hnx _ _ ⟨_, rfl, s1, hl1⟩
        | step ne m2 r => exact absurd (by rw [decide_eq_false (fun z => ne (V.str.inj z))]; rfl) c1
    · rintro σ' H' ⟨u, rfl, s1, hl1⟩
      refine ⟨_, rfl, l, _, rfl, SqL.of hl1, fun r hr => ?_⟩
      refine k r _ (s1.trans (Same.new hr)) (s1.free hr) ?_
      rw [upd_same, List.map_reverse]
theorem idx_of_take {ks : List Str} (nd : ks.Nodup) {i : Nat} {k : Str} (h : ks[i]? = some k) : ks.idxOf k = i := by
  obtain ⟨hi, e⟩ := List.getElem?_eq_some_iff.mp h
  have hm : k ∈ ks := by rw [← e]; exact List.getElem_mem hi
  have l1 := List.idxOf_lt_length_of_mem hm
  have e1 : ks[ks.idxOf k] = ks[i] := by rw [List.getElem_idxOf]; exact e.symm
  exact (List.getElem_inj nd).mp e1
theorem idx_lt {ks : List Str} (nd : ks.Nodup) {i : Nat} {h : Str} (m : h ∈ ks.take i) : ks.idxOf h < i := by
  obtain ⟨j, hj, e⟩ := List.getElem_of_mem m
  rw [List.length_take] at hj
  rw [List.getElem_take] at e
  have q : ks[j]? = some h := by rw [List.getElem?_eq_getElem (by omega), e]
  rw [idx_of_take nd q]
  omega
theorem ROk.tree {rows : Rows} (nd : (ksR rows).Nodup) (nm : ∀ s ∈ ksR rows, Nm s ∧ PyData.strOk s = true) (len : rows.length < 64) (t : Tree rows) : ROk (fun s => (ksR rows).idxOf s) rows := by
  refine ⟨nd, nm, len, fun k h m => ?_, fun s m => Nat.lt_trans (List.idxOf_lt_length_of_mem m) (by rw [ksR_len]; exact len)⟩
  obtain ⟨i, hi, e⟩ := List.getElem_of_mem m
  have q : rows[i]? = some (k, h) := by rw [List.getElem?_eq_getElem hi, e]
  refine (t i k h q).imp_right fun m2 => ?_
  have m3 : h ∈ (ksR rows).take i := by
    unfold ksR at m2 ⊢
    rw [← List.map_take]; exact m2
  refine ⟨List.mem_of_mem_take m3, ?_⟩
  show (ksR rows).idxOf h < (ksR rows).idxOf k
  have qk : (ksR rows)[i]? = some k := by unfold ksR; rw [List.getElem?_map, q]; rfl
  rw [idx_of_take nd qk]
  exact idx_lt nd m3
end
end K5
set_option Elab.async false
set_option linter.all false
set_option maxRecDepth 100000
set_option maxHeartbeats 4000000
namespace K5
open PySem L2
local macro_rules | `(tactic| walk_at "rd1") => `(tactic| first
  | refine ⟨_, _, rfl, rfl, ?_⟩
  | refine ⟨_, _, _, _, rfl, rfl, SqL.of (by assumption), rfl, ?_⟩
  | refine ⟨_, _, _, _, rfl, rfl, (by assumption), rfl, ?_⟩
  | refine .inl ⟨_, rfl, ?_⟩
  | refine ⟨_, rfl, ?_⟩
  | refine ⟨(by unfold CMul; omega), ?_⟩
  | refine ⟨(by unfold CPow; omega), ?_⟩
  | refine ⟨(by (try dsimp only); omega), ?_⟩
  | refine ⟨(by unfold CDiv; omega), ?_⟩
  | fail "rd1")
local macro_rules | `(tactic| walk_at "rd") => `(tactic| repeat' (walk_at "rd1"))
section
variable {P : Program} {w : World} {K : PySem.W.Frag} {mg : Str → Option Value} {base : Heap} {A : Ad}
def rowsF (ns : List Str) (hk : Str → Str) : Rows := ns.map fun n => (n, hk n)
theorem kvR_F (ns : List Str) (hk : Str → Str) : kvR (rowsF ns hk) = kvF ns fun n => .str (hk n) := by simp [kvR, rowsF, kvF]
theorem ksR_F (ns : List Str) (hk : Str → Str) : ksR (rowsF ns hk) = ns := by unfold ksR rowsF; rw [List.map_map]; exact List.map_id _
theorem rows_fn {rows : Rows} (nd : (ksR rows).Nodup) : ∃ hk : Str → Str, rows = rowsF (ksR rows) hk := by
  refine ⟨fun y => match valV (kvR rows) (.inr y) with | some (.str h) => h | _ => y, ?_⟩
  have key : ∀ l : Rows, (∀ r ∈ l, r ∈ rows) → l = rowsF (ksR l) fun y => match valV (kvR rows) (.inr y) with | some (.str h) => h | _ => y := fun l => by
    induction l with
    | nil => intro _; rfl
    | cons r l ih =>
      intro hm
      have e := ih fun r h => hm r (List.mem_cons_of_mem _ h)
      have m : (r.1, r.2) ∈ rows := hm _ (List.mem_cons_self ..)
      show r :: l = (r.1, match valV (kvR rows) (.inr r.1) with | some (.str h) => h | _ => r.1) :: rowsF (ksR l) _
      rw [valR nd m, ← e]
  exact key rows fun _ h => h
theorem mem_F {ns : List Str} {hk : Str → Str} {n : Str} (m : n ∈ ns) : (n, hk n) ∈ rowsF ns hk := List.mem_map.mpr ⟨n, m, rfl⟩
theorem of_mem_F {ns : List Str} {hk : Str → Str} {n h : Str} (m : (n, h) ∈ rowsF ns hk) : n ∈ ns ∧ h = hk n := by
  obtain ⟨k, hk2, e⟩ := List.mem_map.mp m
  cases e
  exact ⟨hk2, rfl⟩
end
end K5
set_option Elab.async false
set_option linter.all false
set_option maxRecDepth 100000
set_option maxHeartbeats 4000000
namespace K5
open PySem L2
local macro_rules | `(tactic| walk_at "rd1") => `(tactic| first
  | refine ⟨_, _, rfl, rfl, ?_⟩
  | refine ⟨_, _, _, _, rfl, rfl, SqL.of (by assumption), rfl, ?_⟩
  | refine ⟨_, _, _, _, rfl, rfl, (by assumption), rfl, ?_⟩
  | refine .inl ⟨_, rfl, ?_⟩
  | refine ⟨_, rfl, ?_⟩
  | refine ⟨(by unfold CMul; omega), ?_⟩
  | refine ⟨(by unfold CPow; omega), ?_⟩
  | refine ⟨(by (try dsimp only); omega), ?_⟩
  | refine ⟨(by unfold CDiv; omega), ?_⟩
  | fail "rd1")
local macro_rules | `(tactic| walk_at "rd") => `(tactic| repeat' (walk_at "rd1"))
section
variable {P : Program} {w : World} {K : PySem.W.Frag} {mg : Str → Option Value} {base : Heap} {A : Ad}
/-- len(meal), also while its dict is locked -/
def spMLenR (C : Addr) : Sp := fun vs H Q _ => ∃ (p dx qb qw qp : Addr) (kvs : List (Key × V)), vs = [.ref p] ∧ H p = some (.ins C dx [("bounds", .ref qb), ("wished", .ref qw), ("places", .ref qp)]) ∧ Rd H qb (.dK kvs) ∧ Q (.int kvs.length) H
theorem ok_mlenR (T : Txt K mg A) : FnOk P w K mg base CX0 1 A.a_Meal___len__ A.d_Meal___len__ P_Meal___len__ (spMLenR A.a_Meal) := by
  refine T.f_Meal___len__.ok sc_Meal___len__ (fun vs H Q E h => ?_) (fun cdv A' outer s H vs Q E hr h => ?_)
  · obtain ⟨p, dx, qb, qw, qp, kvs, rfl, _⟩ := h
    rfl
  · obtain ⟨p, dx, qb, qw, qp, kvs, rfl, hp, hb, k⟩ := h
    refine ⟨_, (pss_one (ps_ret (pe_callB Own.call_lenRd (by rfl) T.len PySem.boot_len (pa_cons (pe_fld (pv 0) rfl) pa_nil)))), ?_⟩
    exact ⟨_, rfl, p, A.a_Meal, dx, _, _, rfl, hp, T.cl_M, T.nB, by rfl, qb, _, rfl, hb, k⟩
def spMIter (C : Addr) (n : Nat) : Sp := fun vs H Q _ => ∃ (p dx qb qw qp : Addr) (od : Obj) (kvs : List (Key × V)), vs = [.ref p] ∧ H p = some (.ins C dx [("bounds", .ref qb), ("wished", .ref qw), ("places", .ref qp)]) ∧ H qb = some (.frz od (.dK kvs)) ∧ ∀ it, H it = none → n ≤ it → Q (.ref it) (upd H it (Own.KiO qb od it))
theorem ok_miter (T : Txt K mg A) : FnOk P w K mg base CX0 1 A.a_Meal___iter__ A.d_Meal___iter__ P_Meal___iter__ (spMIter A.a_Meal base.objs.size) := by
  refine T.f_Meal___iter__.ok sc_Meal___iter__ (fun vs H Q E h => ?_) (fun cdv A' outer s H vs Q E hr h => ?_)
  · obtain ⟨p, dx, qb, qw, qp, od, kvs, rfl, _⟩ := h
    rfl
  · obtain ⟨p, dx, qb, qw, qp, od, kvs, rfl, hp, hb, k⟩ := h
    refine ⟨_, (pss_one (ps_ret (pe_callB Own.call_iterD (by rfl) T.iter (by decide +kernel) (pa_cons (pe_fld (pv 0) rfl) pa_nil)))), ?_⟩
    exact ⟨_, rfl, p, A.a_Meal, dx, _, _, rfl, hp, T.cl_M, T.nB, by rfl, qb, od, kvs, rfl, hb, k⟩
def kvW (ys : List Str) (wt : Str → Int) : List (Key × V) := kvF ys fun n => .int (wt n)
structure BkAt (C : Addr) (H : Hp) (p : Addr) (ys : List Str) (hk : Str → Str) (wt : Str → Int) : Prop where
  ex : ∃ (dx qh qw : Addr), H p = some (.ins C dx [("hooks", .ref qh), ("waits", .ref qw)]) ∧ H qh = some (.dK (kvF ys fun n => .str (hk n))) ∧ H qw = some (.dK (kvF ys fun n => .int (wt n)))
theorem BkAt.up {C : Addr} {H H' : Hp} {p : Addr} {ys : List Str} {hk : Str → Str} {wt : Str → Int} (h : BkAt C H p ys hk wt) (s : Same H H') : BkAt C H' p ys hk wt := by
  obtain ⟨dx, qh, qw, h1, h2, h3⟩ := h.ex
  exact ⟨dx, qh, qw, s _ _ h1, s _ _ h2, s _ _ h3⟩
def spIsWait (K : PySem.W.Frag) : Sp := fun vs H Q _ => ∃ (i : Int), vs = [.int i] ∧ 0 ≤ i ∧ Q (.bl true) H
theorem ok_iswait (T : Txt K mg A) : FnOk P w K mg base CX0 2 A.a_is_wait A.d_is_wait P_is_wait (spIsWait K) := by
  have G_is_integer : FnOk P w K mg base CX0 1 A.a_is_integer A.d_is_integer P_is_integer (spIsInt K) := ok_isint T
  refine T.f_is_wait.ok sc_is_wait (fun vs H Q E h => ?_) (fun cdv A' outer s H vs Q E hr h => ?_)
  · obtain ⟨i, rfl, _⟩ := h
    rfl
  · obtain ⟨i, rfl, h0, k⟩ := h
    refine ⟨_, (pss_one (ps_ret (pe_and (pe_call G_is_integer (hr.mono (by omega)) (by rfl) T.g_is_integer T.f_is_integer.kp T.b_is_integer .nil pass0 (pa_cons (pv 0) pa_nil)) (pe_one (pe_cmpR op_ge (pv 0) pe_int (nomark _)))))), ?_⟩
    refine ⟨_, rfl, .int i, .int i, rfl, .int i, _, rfl, iteT ?_⟩
    refine ⟨_, rfl, _, _, rfl, rfl, ?_⟩
    show Q (.bl (decide (0 ≤ i))) H
    rw [decide_eq_true h0]
    exact k
/-- a row of a book: what it hangs on and the wait, in a tuple -/
def spEntry (K : PySem.W.Frag) : Sp := fun vs H Q _ => ∃ (a d : Addr) (od : Obj) (kvs : List (Key × V)) (ks : List Str) (h : Str) (i : Int), vs = [.ref a, .ref d] ∧ SqT K H a [.str h, .int i] ∧ H d = some (.frz od (.dK kvs)) ∧ kvs.map (·.1) = ks.map Sum.inr ∧ ks.length < 64 ∧ (h = "clock" ∨ h ∈ ks) ∧ 0 ≤ i ∧ ∀ H', Same H H' → Q (.bl true) H'
theorem ok_entry (T : Txt K mg A) : FnOk P w K mg base CX0 3 A.a_is_entry A.d_is_entry P_is_entry (spEntry K) := by
  have G_is_list : FnOk P w K mg base CX0 1 A.a_is_list A.d_is_list P_is_list (spIsList K) := ok_islist T
  have G_is_hook : FnOk P w K mg base CX0 2 A.a_is_hook A.d_is_hook P_is_hook spHook := ok_hook T
  have G_is_wait : FnOk P w K mg base CX0 2 A.a_is_wait A.d_is_wait P_is_wait (spIsWait K) := ok_iswait T
  refine T.f_is_entry.ok sc_is_entry (fun vs H Q E h => ?_) (fun cdv A' outer s H vs Q E hr h => ?_)
  · obtain ⟨a, d, od, kvs, ks, h, i, rfl, _⟩ := h
    rfl
  · obtain ⟨a, d, od, kvs, ks, h, i, rfl, ha, hd, hks, hl, hh, h0, k⟩ := h
    refine ⟨_, (pss_cons (ps_if (PW.pt (pw_or (pt_not (pt_val (pe_call G_is_list (hr.mono (by omega)) (by rfl) T.g_is_list T.f_is_list.kp T.b_is_list .nil pass0 (pa_cons (pv 0) pa_nil)))) (pw_or1 (pt_cmpR op_ne (pe_callB call_len_seq (by rfl) T.len PySem.boot_len (pa_cons (pv 0) pa_nil)) pe_int (nomark _)))))
 (pss_one (ps_ret pe_bl))
 pss_nil)
 (pss_cons (ps_asg (pv 0) (pg_tup (by rfl) (pgs_cons (pg_name (i := 2) sc_is_entry.nd rfl (Or.inl rfl)) (pgs_cons (pg_name (i := 3) sc_is_entry.nd rfl (Or.inl rfl)) pgs_nil))))
 (pss_one (ps_ret (pe_and (pe_call G_is_hook (hr.mono (by omega)) (by rfl) T.g_is_hook T.f_is_hook.kp T.b_is_hook .nil pass0 (pa_cons (pv 2) (pa_cons (pv 1) pa_nil))) (pe_one (pe_call G_is_wait (hr.mono (by omega)) (by rfl) T.g_is_wait T.f_is_wait.kp T.b_is_wait .nil pass0 (pa_cons (pv 3) pa_nil)))))))), ?_⟩
    refine ⟨_, rfl, .ref a, .tuple [.str h, .int i], rfl, .tup ha (.cons (.str h) (.cons (.int i) .nil)), fun H1 s1 => ⟨_, rfl, iteF ?_⟩⟩
    have ha1 := stUp ha s1
    refine ⟨_, rfl, a, _, rfl, .inr ha1, rfl, _, rfl, iteF ?_⟩
    refine ⟨_, rfl, a, _, rfl, ha1, rfl, _, _, rfl, _, _, rfl, rfl, ?_⟩
    refine ⟨_, rfl, _, rfl, h, d, od, kvs, ks, rfl, s1 _ _ hd, hks, hl, hh, fun H2 s2 => ⟨_, rfl, iteT ?_⟩⟩
    exact ⟨_, rfl, i, rfl, h0, k _ (s1.trans s2)⟩
def spHIter (C : Addr) (n : Nat) : Sp := fun vs H Q _ => ∃ (p dx q : Addr) (od : Obj) (kvs : List (Key × V)), vs = [.ref p] ∧ H p = some (.ins C dx [("hooks", .ref q)]) ∧ H q = some (.frz od (.dK kvs)) ∧ ∀ it, H it = none → n ≤ it → Q (.ref it) (upd H it (Own.KiO q od it))
theorem ok_hiter (T : Txt K mg A) : FnOk P w K mg base CX0 1 A.a_Hanging___iter__ A.d_Hanging___iter__ P_Hanging___iter__ (spHIter A.a_Hanging base.objs.size) := by
  refine T.f_Hanging___iter__.ok sc_Hanging___iter__ (fun vs H Q E h => ?_) (fun cdv A' outer s H vs Q E hr h => ?_)
  · obtain ⟨p, dx, q, od, kvs, rfl, _⟩ := h
    rfl
  · obtain ⟨p, dx, q, od, kvs, rfl, hp, hq, k⟩ := h
    refine ⟨_, (pss_one (ps_ret (pe_callB Own.call_iterD (by rfl) T.iter (by decide +kernel) (pa_cons (pe_fld (pv 0) rfl) pa_nil)))), ?_⟩
    exact ⟨_, rfl, p, A.a_Hanging, dx, _, _, rfl, hp, T.cl, T.nH, rfl, q, od, kvs, rfl, hq, k⟩
end
end K5
set_option Elab.async false
set_option linter.all false
set_option maxRecDepth 100000
set_option maxHeartbeats 4000000
namespace K5
open PySem L2
local macro_rules | `(tactic| walk_at "rd1") => `(tactic| first
  | refine ⟨_, _, rfl, rfl, ?_⟩
  | refine ⟨_, _, _, _, rfl, rfl, SqL.of (by assumption), rfl, ?_⟩
  | refine ⟨_, _, _, _, rfl, rfl, (by assumption), rfl, ?_⟩
  | refine .inl ⟨_, rfl, ?_⟩
  | refine ⟨_, rfl, ?_⟩
  | refine ⟨(by unfold CMul; omega), ?_⟩
  | refine ⟨(by unfold CPow; omega), ?_⟩
  | refine ⟨(by (try dsimp only); omega), ?_⟩
  | refine ⟨(by unfold CDiv; omega), ?_⟩
  | fail "rd1")
local macro_rules | `(tactic| walk_at "rd") => `(tactic| repeat' (walk_at "rd1"))
section
variable {P : Program} {w : World} {K : PySem.W.Frag} {mg : Str → Option Value} {base : Heap} {A : Ad}
theorem unfrz {H H' : Hp} {d : Addr} {u o : HO} (hd : H d = some u) (s : Same (upd H d o) H') : Same H (upd H' d u) := fun b v e => by
  by_cases hb : b = d
  · subst hb; rw [upd_same]; rw [hd] at e; exact e
  · rw [upd_ne hb]; exact s _ _ (by rw [upd_ne hb]; exact e)
def spChkE (K : PySem.W.Frag) : Sp := fun vs H Q _ => ∃ (dd : Addr) (kvs : List (Key × V)) (ns : List Str) (hk : Str → Str) (wt : Str → Int), vs = [.ref dd] ∧ H dd = some (.dK kvs) ∧ Pr2 K H ns (fun n => .str (hk n)) (fun n => .int (wt n)) kvs ∧ ns.Nodup ∧ ns.length < 64 ∧
  (∀ n ∈ ns, Nm n ∧ (hk n = "clock" ∨ hk n ∈ ns) ∧ 0 ≤ wt n) ∧ ∀ H', Same H H' → Q .non H'
theorem ok_chke (T : Txt K mg A) : FnOk P w K mg base CX0 4 A.a_check_entries A.d_check_entries P_check_entries (spChkE K) := by
  have G_is_name : FnOk P w K mg base CX0 1 A.a_is_name A.d_is_name P_is_name spIsName := ok_isname T
  have G_is_entry : FnOk P w K mg base CX0 3 A.a_is_entry A.d_is_entry P_is_entry (spEntry K) := ok_entry T
  refine T.f_check_entries.ok sc_check_entries (fun vs H Q E h => ?_) (fun cdv A' outer s H vs Q E hr h => ?_)
  · obtain ⟨dd, kvs, ns, hk, wt, rfl, _⟩ := h
    rfl
  · obtain ⟨dd, kvs, ns, hk, wt, rfl, hd, hP, nd, hl, hB, k⟩ := h
    refine ⟨_, (pss_one (ps_lock (ps_for PassesOwn.never rfl (pi_keys (pv 0)) (pg_name (i := 1) sc_check_entries.nd rfl (Or.inl rfl))
 (pss_one (ps_if (PW.pt (pw_or (pt_not (pt_val (pe_call G_is_name (hr.mono (by omega)) (by rfl) T.g_is_name T.f_is_name.kp T.b_is_name .nil pass0 (pa_cons (pv 1) pa_nil)))) (pw_or1 (pt_not (pt_val (pe_call G_is_entry (hr.mono (by omega)) (by rfl) T.g_is_entry T.f_is_entry.kp T.b_is_entry .nil pass0 (pa_cons (pe_dget (hu_of hr) (pv 0) (pv 1) (fun _ _ => rfl)) (pa_cons (pv 0) pa_nil))))))))
 (pss_one ps_never)
 pss_nil))))), ?_⟩
    refine ⟨dd, _, hd, trivial, fun od => ?_⟩
    have hPf : Pr2 K (upd H dd (.frz od (.dK kvs))) ns (fun n => .str (hk n)) (fun n => .int (wt n)) kvs := hP.set hd (noTup_dK _)
    refine ⟨_, rfl, dd, od, rfl, .inl ⟨kvs, upd_same, for_it walk_keys (fun i σ' H' => ∃ x, σ' = [some (.ref dd), x] ∧ Same (upd H dd (.frz od (.dK kvs))) H') ⟨none, rfl, Same.refl _⟩ (fun i σ' H' _ ⟨_, _, s⟩ => s _ _ upd_same) ?_ ?_⟩⟩
    · rintro i x σ' H' H'' hi ⟨y, rfl, s1⟩ ⟨rfl, key, v, hkv, rfl⟩
      obtain ⟨hi1, a, rfl, rfl, hq⟩ := hPf.get hkv
      have hm := List.getElem_mem hi1
      obtain ⟨b1, b2, b3⟩ := hB _ hm
      refine ⟨_, rfl, ns[i], rfl, b1, fun H2 s2 => ⟨_, rfl, iteF ?_⟩⟩
      have hd2 : H2 dd = some (.frz od (.dK kvs)) := s2 _ _ (s1 _ _ upd_same)
      obtain ⟨a2, hv, hq2⟩ := hPf.val nd hm
      refine ⟨_, rfl, _, rfl, dd, .ref a2, rfl, .inl ⟨kvs, .inr ns[i], .inr ⟨od, hd2⟩, rfl, hv.symm⟩, _, rfl, a2, dd, od, kvs, ns, hk ns[i], wt ns[i], rfl, stUp hq2 (s1.trans s2), hd2, hP.keys, hl, b2, b3, fun H3 s3 => ⟨_, rfl, iteF ?_⟩⟩
      exact ⟨_, rfl, (s1.trans s2).trans s3⟩
    · rintro σ' H' ⟨x, rfl, s1⟩
      exact ⟨s1 _ _ upd_same, k _ (unfrz hd s1)⟩
def spBInit (K : PySem.W.Frag) (C : Addr) : Sp := fun vs H Q _ => ∃ (p dx dd : Addr) (kvs : List (Key × V)) (ns : List Str) (hk : Str → Str) (wt : Str → Int) (rk : Str → Nat), vs = [.ref p, .ref dd] ∧ H p = some (.ins C dx []) ∧ H dd = some (.dK kvs) ∧
  Pr2 K H ns (fun n => .str (hk n)) (fun n => .int (wt n)) kvs ∧ ROk rk (rowsF ns hk) ∧ (∀ n ∈ ns, 0 ≤ wt n) ∧ ∀ (H' : Hp) (ys : List Str), BkAt C H' p ys hk wt → ys.Perm ns → PyProof.Rows.sortedS ys = true → Same (er H p) (er H' p) → Q .non H'
theorem fld2 (x y : V) : putF "waits" y (putF "hooks" x []) = ([("hooks", x), ("waits", y)] : List (Str × V)) := by
  show (if ("hooks" : Str) = "waits" then _ else _) = _
  rw [if_neg (by decide +kernel)]; rfl
theorem ok_binit (T : Txt K mg A) : FnOk P w K mg base CX0 5 A.a_Book___init__ A.d_Book___init__ P_Book___init__ (spBInit K A.a_Book) := by
  have G_check_entries : FnOk P w K mg base CX0 4 A.a_check_entries A.d_check_entries P_check_entries (spChkE K) := ok_chke T
  have G_check_rounds : FnOk P w K mg base CX0 2 A.a_check_rounds A.d_check_rounds P_check_rounds spRounds := ok_rounds T
  refine T.f_Book___init__.ok sc_Book___init__ (fun vs H Q E h => ?_) (fun cdv A' outer s H vs Q E hr h => ?_)
  · obtain ⟨p, dx, dd, kvs, ns, hk, wt, rk, rfl, _⟩ := h
    rfl
  · obtain ⟨p, dx, dd, kvs, ns, hk, wt, rk, rfl, hp, hd, hP, hO, hW, k⟩ := h
    have kN : ns.Nodup := by have := hO.nd; rwa [ksR_F] at this
    have hl : ns.length < 64 := by have := hO.len; rwa [← ksR_len, ksR_F] at this
    have hB : ∀ n ∈ ns, Nm n ∧ (hk n = "clock" ∨ hk n ∈ ns) ∧ 0 ≤ wt n := fun n m => ⟨(hO.nm n (by rw [ksR_F]; exact m)).1, (hO.acy n _ (mem_F m)).imp_right fun e => by have := e.1; rwa [ksR_F] at this, hW n m⟩
    refine ⟨_, (pss_cons (ps_expr (pe_call G_check_entries (hr.mono (by omega)) (by rfl) T.g_check_entries T.f_check_entries.kp T.b_check_entries .nil pass0 (pa_cons (pv 1) pa_nil)))
 (pss_cons (ps_expr (pe_call G_check_rounds (hr.mono (by omega)) (by rfl) T.g_check_rounds T.f_check_rounds.kp T.b_check_rounds .nil pass0 (pa_cons (pe_lock (pe_dc (own := [("name", 2)]) (g := gName 2) (by rfl) sc_Book___init__.nd (pi_keys (pv 1)) (blkOk_by (N := N_Book___init__) (sc := defScope s_Book___init__) (by decide +kernel)) (fun _ _ _ _ _ => pg_name (i := 2) sc_Book___init__.nd rfl (Or.inl rfl)) (fun _ _ _ _ _ => pts_nil) (fun _ _ _ _ _ => (pv 2)) (fun _ _ _ _ _ => (pe_ix (Own.ixTupOf (K := K) rfl) (pe_dget (hu_of hr) (pv 1) (pv 2) (fun _ _ => rfl)) pe_int (fun _ _ => rfl))))) pa_nil)))
 (pss_cons (ps_fld (pv 0) (pe_dc (own := [("name", 2)]) (g := gName 2) (by rfl) sc_Book___init__.nd (pi_list (pe_callB (call_sortedD rfl) (by rfl) T.sorted (by decide +kernel) (pa_cons (pv 1) pa_nil))) (blkOk_by (N := N_Book___init__) (sc := defScope s_Book___init__) (by decide +kernel)) (fun _ _ _ _ _ => pg_name (i := 2) sc_Book___init__.nd rfl (Or.inl rfl)) (fun _ _ _ _ _ => pts_nil) (fun _ _ _ _ _ => (pv 2)) (fun _ _ _ _ _ => (pe_ix (Own.ixTupOf (K := K) rfl) (pe_dget (hu_of hr) (pv 1) (pv 2) (fun _ _ => rfl)) pe_int (fun _ _ => rfl)))) rfl)
 (pss_one (ps_fld (pv 0) (pe_lock (pe_dc (own := [("name", 2)]) (g := gName 2) (by rfl) sc_Book___init__.nd (pi_keys (pe_fld (pv 0) rfl)) (blkOk_by (N := N_Book___init__) (sc := defScope s_Book___init__) (by decide +kernel)) (fun _ _ _ _ _ => pg_name (i := 2) sc_Book___init__.nd rfl (Or.inl rfl)) (fun _ _ _ _ _ => pts_nil) (fun _ _ _ _ _ => (pv 2)) (fun _ _ _ _ _ => (pe_ix (Own.ixTupOf (K := K) rfl) (pe_dget (hu_of hr) (pv 1) (pv 2) (fun _ _ => rfl)) pe_int (fun _ _ => rfl))))) rfl))))), ?_⟩
    have npd : dd ≠ p := ne_of hd hp (fun z => nomatch z)
    refine ⟨_, rfl, dd, kvs, ns, hk, wt, rfl, hd, hP, kN, hl, hB, fun H1 s1 => ?_⟩
    have hd1 := s1 _ _ hd
    have hP1 := hP.up s1
    -- the hooks for the rounds
    refine ⟨dd, _, hd1, trivial, fun od => ?_⟩
    have hPf : Pr2 K (upd H1 dd (.frz od (.dK kvs))) ns (fun n => .str (hk n)) (fun n => .int (wt n)) kvs := hP1.set hd1 (noTup_dK _)
    refine ⟨_, rfl, dd, od, rfl, .inl ⟨kvs, upd_same, fun D hD => fillD walk_keys (fun i H' => Same (upd H1 dd (.frz od (.dK kvs))) H' ∧ H' D = some (.dK (kvF (ns.take i) fun n => .str (hk n)))) ⟨Same.new hD, upd_same⟩ (fun i H' _ h => h.1 _ _ upd_same) ?_ (fun H2 h2 => ?_)⟩⟩
    · rintro i x H' H'' hi ⟨s2, hD2⟩ ⟨rfl, key, v, hkv, rfl⟩
      obtain ⟨hi1, a, rfl, rfl, hq⟩ := hPf.get hkv
      have hm := List.getElem_mem hi1
      obtain ⟨a2, hv, hq2⟩ := hPf.val kN hm
      refine ⟨rfl, _, rfl, _, rfl, _, rfl, dd, .ref a2, rfl, .inl ⟨kvs, .inr ns[i], .inr ⟨od, s2 _ _ upd_same⟩, rfl, hv.symm⟩, _, _, _, _, rfl, rfl, stUp hq2 s2, rfl, _, .inr ns[i], rfl, hD2, ?_, ?_, ?_⟩
      · rw [kvF_len, List.length_take]; exact Nat.lt_of_le_of_lt (show min i _ ≤ 64 by omega) (by decide)
      · exact fun c u e => by rw [upd_ne (ne_of_none e hD)]; exact s2 _ _ e
      · rw [put_new _ _ _ (by
          rw [kvF_keys]
          intro m
          obtain ⟨z, hz, ez⟩ := List.mem_map.mp m
          exact not_in_take kN hi1 (by rw [← Sum.inr.inj ez]; exact hz)), upd_same, List.take_succ, List.getElem?_eq_getElem hi1]
        exact congrArg (fun z => some (HO.dK z)) (kvF_snoc (ns.take i) ns[i] fun n => .str (hk n)).symm
    obtain ⟨s2, hD2⟩ := h2
    rw [hP.len, List.take_length] at hD2
    have nDd : D ≠ dd := fun e => by rw [e, upd_same] at hD; cases hD
    refine ⟨s2 _ _ upd_same, ?_⟩
    have S2 : Same H1 (upd H2 dd (.dK kvs)) := unfrz hd1 s2
    have hD3 : upd H2 dd (.dK kvs) D = some (.dK (kvR (rowsF ns hk))) := by rw [upd_ne nDd, kvR_F]; exact hD2
    generalize upd H2 dd (.dK kvs) = H3 at S2 hD3 ⊢
    have S3 := s1.trans S2
    clear s2 hPf hD2 hD hP1 hd1
    refine ⟨D, rk, rowsF ns hk, rfl, hD3, hO, fun H4 s4 => ?_⟩
    have S4 := S3.trans s4
    clear hD3 S3 S2 s4 s1
    have hd4 := S4 _ _ hd
    have hP4 := hP.up S4
    -- self.hooks
    refine ⟨_, rfl, dd, kvs, ns, rfl, .inl hd4, hP.keys, hl, fun ys q hperm hsort hq => ?_⟩
    have yN : ys.Nodup := hperm.nodup_iff.mpr kN
    have yl : ys.length < 64 := by rw [hperm.length_eq]; exact hl
    refine ⟨q, rfl, ⟨_, SqL.of upd_same⟩, fun D hD => fillD walk_list (fun i H' => Same (upd H4 q (.lst (ys.map V.str))) H' ∧ H' D = some (.dK (kvF (ys.take i) fun n => .str (hk n)))) ⟨Same.new hD, upd_same⟩ (fun i H' _ h => SqL.of (h.1 _ _ upd_same)) ?_ (fun H5 h5 => ?_)⟩
    · rintro i x H' H'' hi1 ⟨s5, hD5⟩ ⟨rfl, hx⟩
      obtain ⟨hi1, rfl⟩ := str_at hx
      have hm : ys[i] ∈ ns := hperm.mem_iff.mp (List.getElem_mem hi1)
      have S5 : Same H4 H'' := (Same.new hq).trans s5
      obtain ⟨a2, hv, hq2⟩ := hP4.val kN hm
      refine ⟨rfl, _, rfl, _, rfl, _, rfl, dd, .ref a2, rfl, .inl ⟨kvs, .inr ys[i], .inl (S5 _ _ hd4), rfl, hv.symm⟩, _, _, _, _, rfl, rfl, stUp hq2 S5, rfl, _, .inr ys[i], rfl, hD5, ?_, ?_, ?_⟩
      · rw [kvF_len, List.length_take]; exact Nat.lt_of_le_of_lt (show min i _ ≤ 64 by omega) (by decide)
      · exact fun c u e => by rw [upd_ne (ne_of_none e hD)]; exact s5 _ _ e
      · rw [put_new _ _ _ (by
          rw [kvF_keys]
          intro m
          obtain ⟨z, hz, ez⟩ := List.mem_map.mp m
          exact not_in_take yN hi1 (by rw [← Sum.inr.inj ez]; exact hz)), upd_same, List.take_succ, List.getElem?_eq_getElem hi1]
        exact congrArg (fun z => some (HO.dK z)) (kvF_snoc (ys.take i) ys[i] fun n => .str (hk n)).symm
    obtain ⟨s5, hD5⟩ := h5
    rw [List.length_map, List.take_length] at hD5
    have S5 : Same H4 H5 := (Same.new hq).trans s5
    have hp5 := S5 _ _ (S4 _ _ hp)
    have nDp : D ≠ p := fun e => by rw [e, hp5] at hD5; cases hD5
    have nDd : D ≠ dd := fun e => by rw [e, Same.new hq _ _ hd4] at hD; cases hD
    refine ⟨_, rfl, p, A.a_Book, dx, _, rfl, hp5, T.cl_B, T.nBH, by decide, ?_⟩
    have hd5 := S5 _ _ hd4
    have hP5 := hP4.up S5
    have E5 : Same (er H p) (er (upd H5 p (.ins A.a_Book dx (putF "hooks" (.ref D) []))) p) := by rw [er_upd]; exact er_mono (S4.trans S5)
    have hD6 : upd H5 p (.ins A.a_Book dx (putF "hooks" (.ref D) [])) D = some (.dK (kvF ys fun n => .str (hk n))) := by rw [upd_ne nDp]; exact hD5
    have hd6 : upd H5 p (.ins A.a_Book dx (putF "hooks" (.ref D) [])) dd = some (.dK kvs) := by rw [upd_ne npd]; exact hd5
    have hP6 : Pr2 K (upd H5 p (.ins A.a_Book dx (putF "hooks" (.ref D) []))) ns (fun n => .str (hk n)) (fun n => .int (wt n)) kvs := hP5.set hp5 (noTup_ins _ _ _)
    have hp6 : upd H5 p (.ins A.a_Book dx (putF "hooks" (.ref D) [])) p = some (.ins A.a_Book dx (putF "hooks" (.ref D) [])) := upd_same
    generalize upd H5 p (.ins A.a_Book dx (putF "hooks" (.ref D) [])) = H6 at E5 hD6 hd6 hP6 hp6 ⊢
    clear hd5 hP5 hp5 S5 s5 hD5 hD hq hP4 hd4
    -- self.waits
    refine ⟨D, _, hD6, trivial, fun od => ?_⟩
    have npD : p ≠ D := fun e => nDp e.symm
    have hp7 : upd H6 D (.frz od (.dK (kvF ys fun n => .str (hk n)))) p = some (.ins A.a_Book dx (putF "hooks" (.ref D) [])) := by rw [upd_ne npD]; exact hp6
    have hd7 : upd H6 D (.frz od (.dK (kvF ys fun n => .str (hk n)))) dd = some (.dK kvs) := by rw [upd_ne nDd.symm]; exact hd6
    have hP7 : Pr2 K (upd H6 D (.frz od (.dK (kvF ys fun n => .str (hk n))))) ns (fun n => .str (hk n)) (fun n => .int (wt n)) kvs := hP6.set hD6 (noTup_dK _)
    refine ⟨_, rfl, p, A.a_Book, dx, _, _, rfl, hp7, T.cl_B, T.nBH, rfl, D, od, rfl, .inl ⟨_, upd_same, fun D2 hD2 => fillD walk_keys (fun i H' => Same (upd H6 D (.frz od (.dK (kvF ys fun n => .str (hk n))))) H' ∧ H' D2 = some (.dK (kvF (ys.take i) fun n => .int (wt n)))) ⟨Same.new hD2, upd_same⟩ (fun i H' _ h => h.1 _ _ upd_same) ?_ (fun H8 h8 => ?_)⟩⟩
    · rintro i x H' H'' hi ⟨s8, hD8⟩ ⟨rfl, key, v, hkv, rfl⟩
      obtain ⟨hi1, rfl, rfl⟩ := kvF_at hkv
      have hm : ys[i] ∈ ns := hperm.mem_iff.mp (List.getElem_mem hi1)
      obtain ⟨a2, hv, hq2⟩ := hP7.val kN hm
      refine ⟨rfl, _, rfl, _, rfl, _, rfl, dd, .ref a2, rfl, .inl ⟨kvs, .inr ys[i], .inl (s8 _ _ hd7), rfl, hv.symm⟩, _, _, _, _, rfl, rfl, stUp hq2 s8, rfl, _, .inr ys[i], rfl, hD8, ?_, ?_, ?_⟩
      · rw [kvF_len, List.length_take]; exact Nat.lt_of_le_of_lt (show min i _ ≤ 64 by omega) (by decide)
      · exact fun c u e => by rw [upd_ne (ne_of_none e hD2)]; exact s8 _ _ e
      · rw [put_new _ _ _ (by
          rw [kvF_keys]
          intro m
          obtain ⟨z, hz, ez⟩ := List.mem_map.mp m
          exact not_in_take yN hi1 (by rw [← Sum.inr.inj ez]; exact hz)), upd_same, List.take_succ, List.getElem?_eq_getElem hi1]
        exact congrArg (fun z => some (HO.dK z)) (kvF_snoc (ys.take i) ys[i] fun n => .int (wt n)).symm
    obtain ⟨s8, hD8⟩ := h8
    rw [kvF_len, List.take_length] at hD8
    have nDD : D2 ≠ D := fun e => by rw [e, upd_same] at hD2; cases hD2
    refine ⟨s8 _ _ upd_same, ?_⟩
    have S8 : Same H6 (upd H8 D (.dK (kvF ys fun n => .str (hk n)))) := unfrz hD6 s8
    have hD9 : upd H8 D (.dK (kvF ys fun n => .str (hk n))) D2 = some (.dK (kvF ys fun n => .int (wt n))) := by rw [upd_ne nDD]; exact hD8
    generalize upd H8 D (.dK (kvF ys fun n => .str (hk n))) = H9 at S8 hD9 ⊢
    have hp9 := S8 _ _ hp6
    have nD2p : D2 ≠ p := fun e => by rw [e, hp9] at hD9; cases hD9
    refine ⟨_, rfl, p, A.a_Book, dx, _, rfl, hp9, T.cl_B, T.nBW, Nat.lt_of_le_of_lt (putF_len _ _ _) (by decide), ?_⟩
    refine k _ ys ⟨dx, D, D2, by rw [upd_same, fld2], by rw [upd_ne nDp]; exact S8 _ _ hD6, by rw [upd_ne nD2p]; exact hD9⟩ hperm hsort ?_
    rw [er_upd]
    exact E5.trans (er_mono S8)
end
end K5
set_option Elab.async false
set_option linter.all false
set_option maxRecDepth 100000
set_option maxHeartbeats 4000000
namespace K5
open PySem L2
local macro_rules | `(tactic| walk_at "rd1") => `(tactic| first
  | refine ⟨_, _, rfl, rfl, ?_⟩
  | refine ⟨_, _, _, _, rfl, rfl, SqL.of (by assumption), rfl, ?_⟩
  | refine ⟨_, _, _, _, rfl, rfl, (by assumption), rfl, ?_⟩
  | refine .inl ⟨_, rfl, ?_⟩
  | refine ⟨_, rfl, ?_⟩
  | refine ⟨(by unfold CMul; omega), ?_⟩
  | refine ⟨(by unfold CPow; omega), ?_⟩
  | refine ⟨(by (try dsimp only); omega), ?_⟩
  | refine ⟨(by unfold CDiv; omega), ?_⟩
  | fail "rd1")
local macro_rules | `(tactic| walk_at "rd") => `(tactic| repeat' (walk_at "rd1"))
section
variable {P : Program} {w : World} {K : PySem.W.Frag} {mg : Str → Option Value} {base : Heap} {A : Ad}
theorem eqv_strs_refl (ss : List Str) : PyData.eqv (.list (ss.map PyData.str)) (.list (ss.map PyData.str)) = true := by
  have h : ∀ ss : List Str, PyData.eqvAll (ss.map PyData.str) (ss.map PyData.str) = true := fun ss => by
    induction ss with
    | nil => simp [PyData.eqvAll]
    | cons s ss ih => simp [PyData.eqvAll, PyData.eqv, ih]
  simp [PyData.eqv, h]
inductive Mo where
  | clock : Mo
  | edge (done : Bool) (n : Str) : Mo
def Mo.d : Mo → PyData
  | .clock => .str "clock"
  | .edge b n => .tuple [.str (if b then "done" else "start"), .str n]
def Mo.on (ys : List Str) : Mo → Prop
  | .clock => True
  | .edge _ n => n ∈ ys
def Mo.isC : Mo → Bool
  | .clock => true
  | .edge _ _ => false
def wayM (W : Str → List Str) : Mo → List Str
  | .clock => []
  | .edge b n => if b then W n ++ [n] else W n
def sprM (W : Str → List Str) (lo hi : Str → Int) (a b : Mo) : Int :=
  (((wayM W b).filter fun n => decide (n ∉ wayM W a)).map hi).sum - (((wayM W a).filter fun n => decide (n ∉ wayM W b)).map lo).sum
theorem edge_shaped {b : Bool} {n : Str} (ok : PyData.strOk n = true) : SeqAt.shaped (Mo.edge b n).d = true := by
  have he' : PyData.strOk (if b = true then "done" else "start" : Str) = true := by cases b <;> decide +kernel
  show SeqAt.shaped (.tuple [.str _, .str n]) = true
  simp [SeqAt.shaped, PyData.canLay0, PyData.canLayAll0, PyData.depth, PyData.depthAll, he', ok]
/-- the data of a moment's edge -/
theorem dp_edge {H : Hp} {v : V} {b : Bool} {n : Str} (h : Dp K H v (Mo.edge b n).d) : ∃ a : Addr, v = .ref a ∧ SqT K H a [.str (if b then "done" else "start"), .str n] := by
  cases h with
  | tup hq hA =>
    cases hA with
    | cons h1 hA =>
      cases h1
      cases hA with
      | cons h2 hA =>
        cases h2
        cases hA
        exact ⟨_, rfl, hq⟩
theorem keysV {kvs : List (Key × V)} {ns : List Str} (h : kvs.map (·.1) = ns.map Sum.inr) : (kvs.map fun kv => kV kv.1) = ns.map V.str := by
  have : (kvs.map fun kv => kV kv.1) = (kvs.map (·.1)).map kV := by rw [List.map_map]; rfl
  rw [this, h, List.map_map]; rfl
/-- a moment, its pair in a tuple or in a list -/
def MoV (K : PySem.W.Frag) (H : Hp) (v : V) (o : Mo) : Prop := ∃ d, Dp K H v d ∧ (d = o.d ∨ ∃ e n, o.d = .tuple [.str e, .str n] ∧ d = .list [.str e, .str n])
theorem MoV.of {H : Hp} {v : V} {o : Mo} (h : Dp K H v o.d) : MoV K H v o := ⟨_, h, .inl rfl⟩
theorem MoV.up {H H' : Hp} {v : V} {o : Mo} (h : MoV K H v o) (s : Same H H') : MoV K H' v o := by
  obtain ⟨d, h1, h2⟩ := h
  exact ⟨d, dpSame s h1, h2⟩
theorem MoV.strip {H : Hp} {v : V} {o : Mo} (h : MoV K H v o) : ∃ d, Dp K H v d ∧ K5.strip d = o.d := by
  obtain ⟨d, h1, h2⟩ := h
  refine ⟨d, h1, ?_⟩
  rcases h2 with rfl | ⟨e, n, e1, rfl⟩
  · cases o with
    | clock => exact strip_str _
    | edge b n => show K5.strip (.tuple [.str _, .str n]) = .tuple [.str _, .str n]; simp [K5.strip, stripAll]
  · rw [e1]; simp [K5.strip, stripAll]
theorem MoV.clk {H : Hp} {v : V} {o : Mo} (h : MoV K H v o) (ok : ∀ b n, o = .edge b n → PyData.strOk n = true) : ∃ d, Dp K H v d ∧ SeqAt.shaped d = true ∧ PyData.eqv d (.str "clock") = o.isC := by
  obtain ⟨d, h1, h2⟩ := h
  refine ⟨d, h1, ?_⟩
  rcases h2 with rfl | ⟨e, n, e1, rfl⟩
  · cases o with
    | clock => exact ⟨by decide +kernel, by decide +kernel⟩
    | edge b n => exact ⟨edge_shaped (ok b n rfl), rfl⟩
  · cases o with
    | clock => cases e1
    | edge b n =>
      cases e1
      refine ⟨?_, rfl⟩
      have he' : PyData.strOk (if b = true then "done" else "start" : Str) = true := by cases b <;> decide +kernel
      simp [SeqAt.shaped, PyData.canLay0, PyData.canLayAll0, PyData.depth, PyData.depthAll, he', ok b n rfl]
theorem MoV.edge {H : Hp} {v : V} {b : Bool} {n : Str} (h : MoV K H v (.edge b n)) : ∃ a : Addr, v = .ref a ∧ SqX K H a [.str (if b then "done" else "start"), .str n] := by
  obtain ⟨d, h1, h2⟩ := h
  rcases h2 with rfl | ⟨e, n', e1, rfl⟩
  · obtain ⟨a, e, q⟩ := dp_edge h1
    exact ⟨a, e, .inr q⟩
  · have e2 : (PyData.tuple [.str (if b = true then "done" else "start"), .str n]) = .tuple [.str e, .str n'] := e1
    injection e2 with e3
    injection e3 with e4 e5
    injection e5 with e6 _
    injection e4 with e4
    injection e6 with e6
    subst e4 e6
    cases h1 with
    | lst hq hA =>
      cases hA with
      | cons h1 hA =>
        cases h1
        cases hA with
        | cons h2 hA =>
          cases h2
          cases hA
          exact ⟨_, rfl, .inl hq⟩
theorem MoV.oks {ys : List Str} {o : Mo} (on : o.on ys) (ok : ∀ n ∈ ys, PyData.strOk n = true) : ∀ b n, o = .edge b n → PyData.strOk n = true := fun b n e => by subst e; exact ok n on
/-- the ways of all dishes, first one that hangs on the clock -/
def WaysOk (ys : List Str) (hk : Str → Str) (W : Str → List Str) : Prop := ∀ n ∈ ys, Way (rowsF ys hk) n (W n).reverse ∧ ∀ x ∈ W n, x ∈ ys
def spWayOf (K : PySem.W.Frag) : Sp := fun vs H Q _ => ∃ (v : V) (dd : Addr) (ys : List Str) (hk : Str → Str) (W : Str → List Str) (o : Mo), vs = [v, .ref dd] ∧ MoV K H v o ∧ o.on ys ∧ H dd = some (.dK (kvR (rowsF ys hk))) ∧ ys.Nodup ∧ (∀ n ∈ ys, PyData.strOk n = true) ∧ WaysOk ys hk W ∧
  ∀ l H', Same H H' → H l = none → H' l = some (.lst ((wayM W o).map V.str)) → Q (.ref l) H'
theorem ok_wayof (T : Txt K mg A) : FnOk P w K mg base CX0 2 A.a_way_of A.d_way_of P_way_of (spWayOf K) := by
  have G_way_up : FnOk P w K mg base CX0 1 A.a_way_up A.d_way_up P_way_up spWayUp := ok_wayup T
  refine T.f_way_of.ok sc_way_of (fun vs H Q E h => ?_) (fun cdv A' outer s H vs Q E hr h => ?_)
  · obtain ⟨v, dd, ys, hk, W, o, rfl, _⟩ := h
    rfl
  · obtain ⟨v, dd, ys, hk, W, o, rfl, hv, on, hd, nd, ok, hW, k⟩ := h
    refine ⟨_, (pss_cons (ps_if (pt_cmpR (op_eqD hr.units) (pv 0) (pe_glob (v := .str "clock") (by rfl) T.g_CLOCK.choose_spec ⟨_, rfl⟩) (nomark _))
 (pss_one (ps_ret (pe_lst pa_nil)))
 pss_nil)
 (pss_cons (ps_asg (pv 0) (Own.pg_lt (by rfl) (pgs_cons (pg_name (i := 2) sc_way_of.nd rfl (Or.inl rfl)) (pgs_cons (pg_name (i := 3) sc_way_of.nd rfl (Or.inl rfl)) pgs_nil))))
 (pss_cons (ps_set (i := 4) sc_way_of.nd rfl (Or.inl rfl) (pe_call G_way_up (hr.mono (by omega)) (by rfl) T.g_way_up T.f_way_up.kp T.b_way_up .nil pass0 (pa_cons (pv 3) (pa_cons (pv 1) pa_nil))))
 (pss_one (ps_ret (pe_ifExp (pt_cmpR op_eq (pv 2) (pe_ix ix_tup (pe_glob (v := .ref A.a_EDGES) (by rfl) T.g_EDGES rfl) pe_int (fun _ _ => rfl)) (nomark _)) (pv 4) (pe_op op_cat (pv 4) (pe_lst (pa_cons (pv 3) pa_nil))))))))), ?_⟩
    obtain ⟨d0, hd0, sh, ev⟩ := hv.clk (MoV.oks on ok)
    refine ⟨_, rfl, _, _, hd0, .str _, sh, by decide +kernel, _, rfl, ?_⟩
    rw [ev]
    cases o with
    | clock => exact iteT ⟨Nat.zero_le _, fun l nl => k l _ (Same.new nl) nl upd_same⟩
    | edge b n =>
      refine iteF ?_
      obtain ⟨a, rfl, hq⟩ := hv.edge
      obtain ⟨hw, hw2⟩ := hW n on
      refine ⟨_, rfl, un2 hq ?_⟩
      refine ⟨_, rfl, _, rfl, dd, rowsF ys hk, n, (W n).reverse, rfl, hd, by rw [ksR_F]; exact nd, hw, fun l H1 s1 nl hl => ?_⟩
      rw [List.reverse_reverse] at hl
      have hE : SqT K H1 A.a_EDGES [.str "start", .str "done"] := stUp T.t_EDGES (fun _ _ z => nomatch z)
      refine ⟨_, rfl, _, _, _, _, rfl, rfl, hE, rfl, rfl, _, rfl, ?_⟩
      cases b with
      | false => exact iteT ⟨_, rfl, k l _ s1 nl hl⟩
      | true =>
        refine iteF ⟨_, rfl, _, rfl, by show 1 ≤ sizeLine; decide, fun e ne => ?_⟩
        have s2 := s1.trans (Same.new ne (o := .lst [.str n]))
        have wl : (W n).length ≤ 64 := by have := hw.choose_spec.2.2; rwa [List.length_reverse] at this
        refine ⟨_, _, _, _, rfl, rfl, Same.new ne _ _ hl, upd_same, by show _ ≤ sizeLine; rw [List.length_map, List.length_singleton]; exact Nat.le_trans (show (W n).length + 1 ≤ 65 by omega) (by decide), fun l2 nl2 => ?_⟩
        refine k l2 _ (s2.trans (Same.new nl2)) (s2.free nl2) ?_
        rw [upd_same]
        show some (HO.lst ((W n).map V.str ++ [.str n])) = some (HO.lst ((W n ++ [n]).map V.str))
        rw [List.map_append]; rfl
end
end K5
set_option Elab.async false
set_option linter.all false
set_option maxRecDepth 100000
set_option maxHeartbeats 4000000
namespace K5
open PySem L2
local macro_rules | `(tactic| walk_at "rd1") => `(tactic| first
  | refine ⟨_, _, rfl, rfl, ?_⟩
  | refine ⟨_, _, _, _, rfl, rfl, SqL.of (by assumption), rfl, ?_⟩
  | refine ⟨_, _, _, _, rfl, rfl, (by assumption), rfl, ?_⟩
  | refine .inl ⟨_, rfl, ?_⟩
  | refine ⟨_, rfl, ?_⟩
  | refine ⟨(by unfold CMul; omega), ?_⟩
  | refine ⟨(by unfold CPow; omega), ?_⟩
  | refine ⟨(by (try dsimp only); omega), ?_⟩
  | refine ⟨(by unfold CDiv; omega), ?_⟩
  | fail "rd1")
local macro_rules | `(tactic| walk_at "rd") => `(tactic| repeat' (walk_at "rd1"))
section
variable {P : Program} {w : World} {K : PySem.W.Frag} {mg : Str → Option Value} {base : Heap} {A : Ad}
/-- a hanging, told by a function of its names -/
def HgF (C : Addr) (H : Hp) (b : Addr) (zs : List Str) (hk : Str → Str) : Prop := ∃ dy qh, H b = some (.ins C dy [("hooks", .ref qh)]) ∧ H qh = some (.dK (kvF zs fun n => .str (hk n)))
theorem HgF.up {C : Addr} {H H' : Hp} {b : Addr} {zs : List Str} {hk : Str → Str} (h : HgF C H b zs hk) (s : Same H H') : HgF C H' b zs hk := by
  obtain ⟨dy, qh, h1, h2⟩ := h
  exact ⟨dy, qh, s _ _ h1, s _ _ h2⟩
theorem eqv_strs_dec (xs ys : List Str) : PyData.eqv (.list (xs.map PyData.str)) (.list (ys.map PyData.str)) = decide (xs = ys) := by
  rw [Bool.eq_iff_iff, decide_eq_true_iff]
  constructor
  · intro h
    have h2 : PyData.eqvAll (xs.map PyData.str) (ys.map PyData.str) = true := by simpa [PyData.eqv] using h
    exact eqvAll_strs h2
  · intro e; rw [e]; exact eqv_strs_refl ys
theorem hgF {C : Addr} {H : Hp} {b : Addr} {zs : List Str} {hk : Str → Str} (B : HgF C H b zs hk) : ∃ dy qh, H b = some (.ins C dy [("hooks", .ref qh)]) ∧ H qh = some (.dK (kvF zs fun n => .str (hk n))) := B
def spSameHD (K : PySem.W.Frag) (CM CB : Addr) : Sp := fun vs H Q _ => ∃ (p b : Addr) (ys zs : List Str) (lo hi : Str → Int) (ds es : List PyData) (hk : Str → Str), vs = [.ref p, .ref b] ∧ MlAt K CM H p ys lo hi ds es ∧ HgF CB H b zs hk ∧ ys.length < 64 ∧ (∀ n ∈ ys, PyData.strOk n = true) ∧ (∀ n ∈ zs, PyData.strOk n = true) ∧
  ys = zs ∧ ∀ H', Same H H' → Q .non H'
theorem ok_chksameH (T : Txt K mg A) : FnOk P w K mg base CX0 6 A.a_check_same A.d_check_same P_check_same (spSameHD K A.a_Meal A.a_Hanging) := by
  refine T.f_check_same.ok sc_check_same (fun vs H Q E h => ?_) (fun cdv A' outer s H vs Q E hr h => ?_)
  · obtain ⟨p, b, ys, zs, lo, hi, ds, es, hk, rfl, _⟩ := h
    rfl
  · obtain ⟨p, b, ys, zs, lo, hi, ds, es, hk, rfl, M, B, hl, ok, ok2, k⟩ := h
    obtain ⟨dy, qh, hp2, hh⟩ := hgF B
    obtain ⟨dx, qb, qw, qp, kvs, ws, ps, hp, hb, hP, hw, hA, _, _⟩ := M.ex
    refine ⟨_, (pss_one (ps_if (pt_cmpR (op_neD hr.units) (pe_lock (pe_callTy (Own.call_listIL (fun _ => ok_miter T) T.b_Meal___iter__ pass0 rfl (hr.mono (by omega)) (hr.mono (by omega)) T.m_iterM.1 T.m_iterM.2 (ok_mlenR T) T.b_Meal___len__ T.m_lenM.1 T.m_lenM.2) (by rfl) T.list (by decide +kernel) (pa_cons (pv 0) pa_nil))) (pe_lock (pe_callTy (Own.call_listIt (fun _ => ok_hiter T) T.b_Hanging___iter__ pass0 rfl (hr.mono (by omega)) T.m_iterH.1 T.m_iterH.2 T.nLenH T.nHintH) (by rfl) T.list (by decide +kernel) (pa_cons (pv 1) pa_nil))) (nomark _))
 (pss_one ps_never)
 pss_nil)), ?_⟩
    -- list(meal)
    refine ⟨qb, _, hb, trivial, fun od => ?_⟩
    have npq : p ≠ qb := fun e => by rw [e, hb] at hp; cases hp
    have z1 : ∀ {o : HO}, upd H qb o p = some (.ins A.a_Meal dx [("bounds", .ref qb), ("wished", .ref qw), ("places", .ref qp)]) := fun {o} => by rw [upd_ne npq]; exact hp
    refine ⟨_, rfl, p, dx, _, rfl, z1, fun S nS m => ?_⟩
    have nSq : S ≠ qb := fun e => by rw [e, upd_same] at nS; cases nS
    have nS0 : H S = none := by rw [upd_ne nSq] at nS; exact nS
    have z2 : ∀ {o : HO}, upd (upd H qb (.frz od (.dK kvs))) S o p = some (.ins A.a_Meal dx [("bounds", .ref qb), ("wished", .ref qw), ("places", .ref qp)]) := fun {o} => Same.new nS _ _ z1
    have z3 : ∀ {o : HO}, upd (upd H qb (.frz od (.dK kvs))) S o qb = some (.frz od (.dK kvs)) := fun {o} => Same.new nS _ _ upd_same
    have kl : kvs.length ≤ sizeLine := by rw [hP.len]; exact Nat.le_trans (show ys.length ≤ 64 by omega) (by decide)
    refine ⟨p, dx, qb, qw, qp, od, kvs, rfl, z2, z3, fun it nit hm => ⟨it, qb, od, kvs, rfl, upd_same, Same.new nit _ _ z3, Same.new nit _ _ upd_same, hm, ⟨dx, _, Same.new nit _ _ z2⟩, ⟨p, dx, qb, qw, qp, kvs, rfl, Same.new nit _ _ z2, .inr ⟨od, Same.new nit _ _ z3⟩, kvs.length, rfl, kl, rfl⟩, ?_⟩⟩
    rw [ItX.dropH_upd nit, upd_upd, keysV hP.keys]
    refine ⟨Same.new nS _ _ upd_same, ?_⟩
    have s1 : Same H (upd (upd (upd H qb (.frz od (.dK kvs))) S (.lst (ys.map V.str))) qb (.dK kvs)) := unfrz hb (Same.new nS)
    have hS1 : upd (upd (upd H qb (.frz od (.dK kvs))) S (.lst (ys.map V.str))) qb (.dK kvs) S = some (.lst (ys.map V.str)) := by rw [upd_ne nSq, upd_same]
    generalize upd (upd (upd H qb (.frz od (.dK kvs))) S (.lst (ys.map V.str))) qb (.dK kvs) = H1 at s1 hS1 ⊢
    clear z1 z2 z3 nS nSq nS0
    -- list(tree)
    have hp3 := s1 _ _ hp2
    have hh3 := s1 _ _ hh
    refine ⟨qh, _, hh3, trivial, fun od => ?_⟩
    have npq : b ≠ qh := fun e => by rw [e, hh] at hp2; cases hp2
    have z1 : ∀ {o : HO}, upd H1 qh o b = some (.ins A.a_Hanging dy [("hooks", .ref qh)]) := fun {o} => by rw [upd_ne npq]; exact hp3
    refine ⟨_, rfl, b, dy, _, rfl, z1, fun S2 nS m => ?_⟩
    have nSq : S2 ≠ qh := fun e => by rw [e, upd_same] at nS; cases nS
    have z2 : ∀ {o : HO}, upd (upd H1 qh (.frz od (.dK (kvF zs fun n => .str (hk n))))) S2 o b = some (.ins A.a_Hanging dy [("hooks", .ref qh)]) := fun {o} => Same.new nS _ _ z1
    have z3 : ∀ {o : HO}, upd (upd H1 qh (.frz od (.dK (kvF zs fun n => .str (hk n))))) S2 o qh = some (.frz od (.dK (kvF zs fun n => .str (hk n)))) := fun {o} => Same.new nS _ _ upd_same
    refine ⟨b, dy, qh, od, kvF zs fun n => .str (hk n), rfl, z2, z3, fun it nit hm => ⟨it, qh, od, kvF zs fun n => .str (hk n), rfl, upd_same, Same.new nit _ _ z3, Same.new nit _ _ upd_same, hm, ⟨dy, _, Same.new nit _ _ z2⟩, ?_⟩⟩
    rw [ItX.dropH_upd nit, upd_upd, keysV (kvF_keys zs fun n => .str (hk n))]
    refine ⟨Same.new nS _ _ upd_same, ?_⟩
    have s2 : Same H1 (upd (upd (upd H1 qh (.frz od (.dK (kvF zs fun n => .str (hk n))))) S2 (.lst (zs.map V.str))) qh (.dK (kvF zs fun n => .str (hk n)))) := unfrz hh3 (Same.new nS)
    have hS2 : upd (upd (upd H1 qh (.frz od (.dK (kvF zs fun n => .str (hk n))))) S2 (.lst (zs.map V.str))) qh (.dK (kvF zs fun n => .str (hk n))) S2 = some (.lst (zs.map V.str)) := by rw [upd_ne nSq, upd_same]
    generalize upd (upd (upd H1 qh (.frz od (.dK (kvF zs fun n => .str (hk n))))) S2 (.lst (zs.map V.str))) qh (.dK (kvF zs fun n => .str (hk n))) = H2 at s2 hS2 ⊢
    refine ⟨.list (ys.map PyData.str), .list (zs.map PyData.str), .lst (SqL.of (s2 _ _ hS1)) (dpStrs _), .lst (SqL.of hS2) (dpStrs _), strs_shaped ok, strs_shaped ok2, _, rfl, ?_⟩
    rw [eqv_strs_dec]
    rw [decide_eq_true k.1]
    exact iteF (k.2 _ (s1.trans s2))
end
end K5
set_option Elab.async false
set_option linter.all false
set_option maxRecDepth 100000
set_option maxHeartbeats 4000000
namespace K5
open PySem L2
local macro_rules | `(tactic| walk_at "rd1") => `(tactic| first
  | refine ⟨_, _, rfl, rfl, ?_⟩
  | refine ⟨_, _, _, _, rfl, rfl, SqL.of (by assumption), rfl, ?_⟩
  | refine ⟨_, _, _, _, rfl, rfl, (by assumption), rfl, ?_⟩
  | refine .inl ⟨_, rfl, ?_⟩
  | refine ⟨_, rfl, ?_⟩
  | refine ⟨(by unfold CMul; omega), ?_⟩
  | refine ⟨(by unfold CPow; omega), ?_⟩
  | refine ⟨(by (try dsimp only); omega), ?_⟩
  | refine ⟨(by unfold CDiv; omega), ?_⟩
  | fail "rd1")
local macro_rules | `(tactic| walk_at "rd") => `(tactic| repeat' (walk_at "rd1"))
section
variable {P : Program} {w : World} {K : PySem.W.Frag} {mg : Str → Option Value} {base : Heap} {A : Ad}
theorem filter_step {ys : List Str} {i : Nat} (hi : i < ys.length) (p : Str → Bool) : (ys.take (i + 1)).filter p = (ys.take i).filter p ++ (if p ys[i] = true then [ys[i]] else []) := by
  rw [List.take_succ, List.getElem?_eq_getElem hi, List.filter_append]
  congr 1
  by_cases e : p ys[i] = true <;> simp [e]
def spSpread (K : PySem.W.Frag) : Sp := fun vs H Q _ => ∃ (v1 v2 : V) (dh dd : Addr) (ys : List Str) (hk : Str → Str) (W : Str → List Str) (lo hi : Str → Int) (kvs : List (Key × V)) (a b : Mo), vs = [v1, v2, .ref dh, .ref dd] ∧ MoV K H v1 a ∧ MoV K H v2 b ∧ a.on ys ∧ b.on ys ∧ H dh = some (.dK (kvR (rowsF ys hk))) ∧
  H dd = some (.dK kvs) ∧ Pr2 K H ys (fun n => .int (lo n)) (fun n => .int (hi n)) kvs ∧ ys.Nodup ∧ ys.length < 64 ∧ (∀ n ∈ ys, PyData.strOk n = true) ∧ WaysOk ys hk W ∧ ∀ H', Same H H' → Q (.int (sprM W lo hi a b)) H'
theorem way_len {ys : List Str} {hk : Str → Str} {W : Str → List Str} {o : Mo} (hW : WaysOk ys hk W) (on : o.on ys) : (wayM W o).length ≤ 65 ∧ ∀ x ∈ wayM W o, x ∈ ys := by
  cases o with
  | clock => exact ⟨Nat.zero_le _, fun x m => by cases m⟩
  | edge b n =>
    obtain ⟨hw, h2⟩ := hW n on
    have wl : (W n).length ≤ 64 := by have := hw.choose_spec.2.2; rwa [List.length_reverse] at this
    cases b with
    | false => exact ⟨show (W n).length ≤ 65 by omega, h2⟩
    | true =>
      refine ⟨by show (W n ++ [n]).length ≤ 65; rw [List.length_append, List.length_singleton]; omega, fun x m => ?_⟩
      rcases List.mem_append.mp (show x ∈ W n ++ [n] from m) with m | m
      · exact h2 x m
      · rw [List.mem_singleton.mp m]; exact on
def spLonger (K : PySem.W.Frag) : Sp := fun vs H Q _ => ∃ (l1 l2 dd : Addr) (wa wb ys : List Str) (lo hi : Str → Int) (kvs : List (Key × V)), vs = [.ref l1, .ref l2, .ref dd] ∧ H l1 = some (.lst (wa.map V.str)) ∧ H l2 = some (.lst (wb.map V.str)) ∧ wa.length ≤ 65 ∧ (∀ x ∈ wa, x ∈ ys) ∧ wb.length ≤ 65 ∧ (∀ x ∈ wb, x ∈ ys) ∧
  H dd = some (.dK kvs) ∧ Pr2 K H ys (fun n => .int (lo n)) (fun n => .int (hi n)) kvs ∧ ys.Nodup ∧ ∀ H', Same H H' → Q (.int (((wb.filter fun n => decide (n ∉ wa)).map hi).sum - ((wa.filter fun n => decide (n ∉ wb)).map lo).sum)) H'
theorem ok_longer (T : Txt K mg A) : FnOk P w K mg base CX0 1 A.a_most_longer A.d_most_longer P_most_longer (spLonger K) := by
  refine T.f_most_longer.ok sc_most_longer (fun vs H Q E h => ?_) (fun cdv A' outer s H vs Q E hr h => ?_)
  · obtain ⟨l1, l2, dd, wa, wb, ys, lo, hi, kvs, rfl, _⟩ := h
    rfl
  · obtain ⟨l1, l2, dd, wa, wb, ys, lo, hi, kvs, rfl, h1, h2, la, ma, lb, mb, hd, hP, nd, k⟩ := h
    refine ⟨_, (pss_cons (ps_set (i := 3) sc_most_longer.nd rfl (Or.inl rfl) (pe_callB (cr_sum rfl) (by rfl) T.sum (by decide +kernel) (pa_cons (pe_lc (own := [("name", 4)]) (g := gName 4) (by rfl) sc_most_longer.nd (pi_list (pv 1)) (blkOk_by (N := N_most_longer) (sc := defScope s_most_longer) (by decide +kernel)) (fun _ _ _ _ _ => pg_name (i := 4) sc_most_longer.nd rfl (Or.inl rfl)) (fun _ _ _ _ _ => pts_one (pt_cmpR (Own.notInSeqOf (K := K) rfl) (pv 4) (pv 0) (by rfl))) (fun _ _ _ _ _ => (pe_ix (Own.ixTupOf (K := K) rfl) (pe_dget (hu_of hr) (pv 2) (pv 4) (fun _ _ => rfl)) pe_int (fun _ _ => rfl)))) pa_nil)))
 (pss_one (ps_ret (pe_op op_sub (pv 3) (pe_callB (cr_sum rfl) (by rfl) T.sum (by decide +kernel) (pa_cons (pe_lc (own := [("name", 4)]) (g := gName 4) (by rfl) sc_most_longer.nd (pi_list (pv 0)) (blkOk_by (N := N_most_longer) (sc := defScope s_most_longer) (by decide +kernel)) (fun _ _ _ _ _ => pg_name (i := 4) sc_most_longer.nd rfl (Or.inl rfl)) (fun _ _ _ _ _ => pts_one (pt_cmpR (Own.notInSeqOf (K := K) rfl) (pv 4) (pv 1) (by rfl))) (fun _ _ _ _ _ => (pe_ix (Own.ixTupOf (K := K) rfl) (pe_dget (hu_of hr) (pv 2) (pv 4) (fun _ _ => rfl)) pe_int (fun _ _ => rfl)))) pa_nil)))))), ?_⟩
    have S2 : Same H H := Same.refl _
    refine ⟨_, rfl, l2, rfl, ⟨_, SqL.of h2⟩, fun D hD => lc_it walk_list (fun i H' => Same H H' ∧ H' D = some (.lst ((((wb.take i).filter fun n => decide (n ∉ wa)).map hi).map V.int))) ⟨Same.new hD, upd_same⟩ (fun i H' _ z => SqL.of (z.1 _ _ h2)) ?_ (fun H3 z => ?_)⟩
    · rintro i x H' H'' hi1 ⟨s3, hD3⟩ ⟨rfl, hx⟩
      obtain ⟨hi1, rfl⟩ := str_at hx
      have hm := mb _ (List.getElem_mem hi1)
      have S3 := S2.trans s3
      refine ⟨rfl, _, rfl, _, rfl, l1, _, rfl, .inl (SqL.of (s3 _ _ h1)), rfl, flat_strs wa, _, rfl, ?_⟩
      rw [inV_strs]
      rw [filter_step hi1]
      by_cases c1 : wb[i] ∈ wa
      · rw [decide_eq_true c1]
        refine iteF ⟨s3, ?_⟩
        rw [if_neg (by simp [c1]), List.append_nil]; exact hD3
      · rw [decide_eq_false c1]
        obtain ⟨t, hv, hq⟩ := hP.val nd hm
        refine iteT ⟨_, rfl, _, rfl, dd, .ref t, rfl, .inl ⟨kvs, .inr wb[i], .inl (S3 _ _ hd), rfl, hv.symm⟩, _, _, _, _, rfl, rfl, stUp hq S3, rfl, _, hD3, ?_, ?_, ?_⟩
        · rw [List.length_map, List.length_map]
          exact Nat.lt_of_le_of_lt (Nat.le_trans (List.length_filter_le _ _) (by rw [List.length_take]; omega)) (show 65 < sizeLine by decide)
        · exact fun b u e => by rw [upd_ne (ne_of_none e hD)]; exact s3 _ _ e
        · rw [upd_same, if_pos (by simp [c1]), List.map_append, List.map_append]; rfl
    obtain ⟨s3, hD3⟩ := z
    rw [List.length_map, List.take_length] at hD3
    refine ⟨D, _, rfl, SqL.of hD3, ?_⟩
    have h1 := s3 _ _ h1
    have h2 := s3 _ _ h2
    have S3 := S2.trans s3
    clear S2 s3 hD hD3
    refine ⟨_, rfl, _, rfl, l1, rfl, ⟨_, SqL.of h1⟩, fun D hD => lc_it walk_list (fun i H' => Same H3 H' ∧ H' D = some (.lst ((((wa.take i).filter fun n => decide (n ∉ wb)).map lo).map V.int))) ⟨Same.new hD, upd_same⟩ (fun i H' _ z => SqL.of (z.1 _ _ h1)) ?_ (fun H4 z => ?_)⟩
    · rintro i x H' H'' hi1 ⟨s4, hD4⟩ ⟨rfl, hx⟩
      obtain ⟨hi1, rfl⟩ := str_at hx
      have hm := ma _ (List.getElem_mem hi1)
      have S4 := S3.trans s4
      refine ⟨rfl, _, rfl, _, rfl, l2, _, rfl, .inl (SqL.of (s4 _ _ h2)), rfl, flat_strs wb, _, rfl, ?_⟩
      rw [inV_strs]
      rw [filter_step hi1]
      by_cases c1 : wa[i] ∈ wb
      · rw [decide_eq_true c1]
        refine iteF ⟨s4, ?_⟩
        rw [if_neg (by simp [c1]), List.append_nil]; exact hD4
      · rw [decide_eq_false c1]
        obtain ⟨t, hv, hq⟩ := hP.val nd hm
        refine iteT ⟨_, rfl, _, rfl, dd, .ref t, rfl, .inl ⟨kvs, .inr wa[i], .inl (S4 _ _ hd), rfl, hv.symm⟩, _, _, _, _, rfl, rfl, stUp hq S4, rfl, _, hD4, ?_, ?_, ?_⟩
        · rw [List.length_map, List.length_map]
          exact Nat.lt_of_le_of_lt (Nat.le_trans (List.length_filter_le _ _) (by rw [List.length_take]; omega)) (show 65 < sizeLine by decide)
        · exact fun b u e => by rw [upd_ne (ne_of_none e hD)]; exact s4 _ _ e
        · rw [upd_same, if_pos (by simp [c1]), List.map_append, List.map_append]; rfl
    obtain ⟨s4, hD4⟩ := z
    rw [List.length_map, List.take_length] at hD4
    exact ⟨D, _, rfl, SqL.of hD4, _, _, rfl, rfl, k _ (S3.trans s4)⟩
theorem ok_spread (T : Txt K mg A) : FnOk P w K mg base CX0 3 A.a_spread A.d_spread P_spread (spSpread K) := by
  have G_way_of : FnOk P w K mg base CX0 2 A.a_way_of A.d_way_of P_way_of (spWayOf K) := ok_wayof T
  have G_most_longer : FnOk P w K mg base CX0 1 A.a_most_longer A.d_most_longer P_most_longer (spLonger K) := ok_longer T
  refine T.f_spread.ok sc_spread (fun vs H Q E h => ?_) (fun cdv A' outer s H vs Q E hr h => ?_)
  · obtain ⟨v1, v2, dh, dd, ys, hk, W, lo, hi, kvs, a, b, rfl, _⟩ := h
    rfl
  · obtain ⟨v1, v2, dh, dd, ys, hk, W, lo, hi, kvs, a, b, rfl, ha, hb, aon, bon, hh, hd, hP, nd, hl, ok, hW, k⟩ := h
    refine ⟨_, (pss_one (ps_ret (pe_call G_most_longer (hr.mono (by omega)) (by rfl) T.g_most_longer T.f_most_longer.kp T.b_most_longer .nil pass0 (pa_cons (pe_call G_way_of (hr.mono (by omega)) (by rfl) T.g_way_of T.f_way_of.kp T.b_way_of .nil pass0 (pa_cons (pv 0) (pa_cons (pv 2) pa_nil))) (pa_cons (pe_call G_way_of (hr.mono (by omega)) (by rfl) T.g_way_of T.f_way_of.kp T.b_way_of .nil pass0 (pa_cons (pv 1) (pa_cons (pv 2) pa_nil))) (pa_cons (pv 3) pa_nil)))))), ?_⟩
    refine ⟨_, rfl, _, rfl, v1, dh, ys, hk, W, a, rfl, ha, aon, hh, nd, ok, hW, fun l1 H1 s1 nl1 h1 => ?_⟩
    refine ⟨_, rfl, _, rfl, v2, dh, ys, hk, W, b, rfl, hb.up s1, bon, s1 _ _ hh, nd, ok, hW, fun l2 H2 s2 nl2 h2 => ?_⟩
    have S2 := s1.trans s2
    obtain ⟨la, ma⟩ := way_len hW aon
    obtain ⟨lb, mb⟩ := way_len hW bon
    exact ⟨_, rfl, l1, l2, dd, _, _, ys, lo, hi, kvs, rfl, s2 _ _ h1, h2, la, ma, lb, mb, S2 _ _ hd, hP.up S2, nd, fun H3 s3 => k H3 (S2.trans s3)⟩
end
end K5
set_option Elab.async false
set_option linter.all false
set_option maxRecDepth 100000
set_option maxHeartbeats 4000000
namespace K5
open PySem L2
local macro_rules | `(tactic| walk_at "rd1") => `(tactic| first
  | refine ⟨_, _, rfl, rfl, ?_⟩
  | refine ⟨_, _, _, _, rfl, rfl, SqL.of (by assumption), rfl, ?_⟩
  | refine ⟨_, _, _, _, rfl, rfl, (by assumption), rfl, ?_⟩
  | refine .inl ⟨_, rfl, ?_⟩
  | refine ⟨_, rfl, ?_⟩
  | refine ⟨(by unfold CMul; omega), ?_⟩
  | refine ⟨(by unfold CPow; omega), ?_⟩
  | refine ⟨(by (try dsimp only); omega), ?_⟩
  | refine ⟨(by unfold CDiv; omega), ?_⟩
  | fail "rd1")
local macro_rules | `(tactic| walk_at "rd") => `(tactic| repeat' (walk_at "rd1"))
section
variable {P : Program} {w : World} {K : PySem.W.Frag} {mg : Str → Option Value} {base : Heap} {A : Ad}
theorem paired_snoc {α β : Type} {R : α → β → Prop} : ∀ {xs : List α} {ys : List β} {x : α} {y : β}, Paired R xs ys → R x y → Paired R (xs ++ [x]) (ys ++ [y])
  | _, _, _, _, .nil, h => .cons h .nil
  | _, _, _, _, .cons a b, h => .cons a (paired_snoc b h)
theorem paired_imp {α β : Type} {R S : α → β → Prop} (f : ∀ a b, R a b → S a b) : ∀ {xs : List α} {ys : List β}, Paired R xs ys → Paired S xs ys
  | _, _, .nil => .nil
  | _, _, .cons a b => .cons (f _ _ a) (paired_imp f b)
def wiD (w : Mo × Mo × Int) : PyData := .tuple [w.1.d, w.2.1.d, .int w.2.2]
theorem dp_wi {H : Hp} {v : V} {w : Mo × Mo × Int} (h : Dp K H v (wiD w)) : ∃ (a : Addr) (v1 v2 : V), v = .ref a ∧ SqT K H a [v1, v2, .int w.2.2] ∧ Dp K H v1 w.1.d ∧ Dp K H v2 w.2.1.d := by
  cases h with
  | tup hq hA =>
    cases hA with
    | cons h1 hA =>
      cases hA with
      | cons h2 hA =>
        cases hA with
        | cons h3 hA =>
          cases h3
          cases hA
          exact ⟨_, _, _, rfl, hq, h1, h2⟩
theorem Sta.at_ {H : Hp} {st c t : Addr} {b : Int} {u o : HO} (h : Sta H st c b) (ht : er H st t = some u) (hu : ∀ xs, u ≠ .lst xs) : Sta (upd H t o) st c b := by
  obtain ⟨cs, i, l, m, n, h1, h2, h3⟩ := h.ex
  have ns := (er_some ht).1
  have nc : c ≠ t := fun e => by rw [e, ht] at h2; exact hu _ (Option.some.inj h2)
  exact ⟨cs, i, l, m, n, by rw [upd_ne ns.symm]; exact h1, by rw [er_updp ns, upd_ne nc]; exact h2, h3⟩
theorem Gs.unlock {H H' : Hp} {st c t : Addr} {b b0 : Int} {u o : HO} (S0 : Sta H st c b0) (ht : er H st t = some u) (hu : ∀ xs, u ≠ .lst xs) (g : Gs st c (upd H t o) H' b) : Gs st c H (upd H' t u) b := by
  have ns := (er_some ht).1
  obtain ⟨cs0, i0, l0, m0, n0, _, c0, _⟩ := S0.ex
  have nc : c ≠ t := fun e => by rw [e, ht] at c0; exact hu _ (Option.some.inj c0)
  obtain ⟨cs, i, l, m, n, h1, h2, h3⟩ := g.sta.ex
  refine ⟨⟨cs, i, l, m, n, by rw [upd_ne ns.symm]; exact h1, by rw [er_updp ns, upd_ne nc]; exact h2, h3⟩, fun x v e => ?_⟩
  rw [er_updp ns]
  by_cases hx : x = t
  · subst hx; rw [upd_same]; rw [ht] at e; exact e
  · rw [upd_ne hx]
    exact g.same _ _ (by rw [er_updp ns, upd_ne hx]; exact e)
end
end K5
set_option Elab.async false
set_option linter.all false
set_option maxRecDepth 100000
set_option maxHeartbeats 4000000
namespace K5
open PySem L2
local macro_rules | `(tactic| walk_at "rd1") => `(tactic| first
  | refine ⟨_, _, rfl, rfl, ?_⟩
  | refine ⟨_, _, _, _, rfl, rfl, SqL.of (by assumption), rfl, ?_⟩
  | refine ⟨_, _, _, _, rfl, rfl, (by assumption), rfl, ?_⟩
  | refine .inl ⟨_, rfl, ?_⟩
  | refine ⟨_, rfl, ?_⟩
  | refine ⟨(by unfold CMul; omega), ?_⟩
  | refine ⟨(by unfold CPow; omega), ?_⟩
  | refine ⟨(by (try dsimp only); omega), ?_⟩
  | refine ⟨(by unfold CDiv; omega), ?_⟩
  | fail "rd1")
local macro_rules | `(tactic| walk_at "rd") => `(tactic| repeat' (walk_at "rd1"))
section
variable {P : Program} {w : World} {K : PySem.W.Frag} {mg : Str → Option Value} {base : Heap} {A : Ad}
theorem Path.mono {rs rows : Rows} (f : ∀ k h, (k, h) ∈ rs → (k, h) ∈ rows) : ∀ {h : Str} {ws : List Str}, Path rs h ws → Path rows h ws
  | _, _, .clock => .clock
  | _, _, .step ne m r => .step ne (f _ _ m) (r.mono f)
theorem Path.mem {rows : Rows} : ∀ {h : Str} {ws : List Str}, Path rows h ws → ∀ x ∈ ws, x ∈ ksR rows
  | _, _, .clock, x, m => by cases m
  | _, _, .step ne m r, x, hx => by
    rcases List.mem_cons.mp hx with e | hx
    · rw [e]; exact memK m
    · exact r.mem x hx
theorem ROk.perm {rk : Str → Nat} {ns ys : List Str} {hk : Str → Str} (h : ROk rk (rowsF ns hk)) (p : ys.Perm ns) : ROk rk (rowsF ys hk) := by
  have nd : ns.Nodup := by have := h.nd; rwa [ksR_F] at this
  have hl : ns.length < 64 := by have := h.len; rwa [← ksR_len, ksR_F] at this
  have up : ∀ k x, (k, x) ∈ rowsF ys hk → (k, x) ∈ rowsF ns hk := fun k x m => by
    obtain ⟨m1, e⟩ := of_mem_F m
    rw [e]; exact mem_F (p.mem_iff.mp m1)
  refine ⟨by rw [ksR_F]; exact p.nodup_iff.mpr nd, fun s m => h.nm s ?_, ?_, fun k x m => (h.acy k x (up k x m)).imp_right fun e => ⟨?_, e.2⟩, fun s m => h.rkb s ?_⟩
  · rw [ksR_F] at m ⊢; exact p.mem_iff.mp m
  · rw [← ksR_len, ksR_F, p.length_eq]; exact hl
  · have := e.1
    rw [ksR_F] at this ⊢; exact p.mem_iff.mpr this
  · rw [ksR_F] at m ⊢; exact p.mem_iff.mp m
/-- ways there are -/
theorem ways_ex {rk : Str → Nat} {ys : List Str} {hk : Str → Str} (h : ROk rk (rowsF ys hk)) : ∃ W : Str → List Str, WaysOk ys hk W := by
  have ex : ∀ n : Str, ∃ ws : List Str, n ∈ ys → Way (rowsF ys hk) n ws := fun n => by
    by_cases m : n ∈ ys
    · obtain ⟨ws, hw⟩ := way_ex h (nm := n) (by rw [ksR_F]; exact m)
      exact ⟨ws, fun _ => hw⟩
    · exact ⟨[], fun m2 => absurd m2 m⟩
  refine ⟨fun n => (ex n).choose.reverse, fun n m => ?_⟩
  have hw := (ex n).choose_spec m
  refine ⟨by rw [List.reverse_reverse]; exact hw, fun x hx => ?_⟩
  obtain ⟨h2, _, pa, _⟩ := hw
  have := pa.mem x (List.mem_reverse.mp hx)
  rwa [ksR_F] at this
theorem Mo.on_mono {ns ys : List Str} (h : ∀ n ∈ ns, n ∈ ys) {o : Mo} (on : o.on ns) : o.on ys := by
  cases o with
  | clock => trivial
  | edge b n => exact h n on
end
end K5
set_option Elab.async false
set_option linter.all false
set_option maxRecDepth 100000
set_option maxHeartbeats 4000000
namespace K5
open PySem L2
local macro_rules | `(tactic| walk_at "rd1") => `(tactic| first
  | refine ⟨_, _, rfl, rfl, ?_⟩
  | refine ⟨_, _, _, _, rfl, rfl, SqL.of (by assumption), rfl, ?_⟩
  | refine ⟨_, _, _, _, rfl, rfl, (by assumption), rfl, ?_⟩
  | refine .inl ⟨_, rfl, ?_⟩
  | refine ⟨_, rfl, ?_⟩
  | refine ⟨(by unfold CMul; omega), ?_⟩
  | refine ⟨(by unfold CPow; omega), ?_⟩
  | refine ⟨(by (try dsimp only); omega), ?_⟩
  | refine ⟨(by unfold CDiv; omega), ?_⟩
  | fail "rd1")
local macro_rules | `(tactic| walk_at "rd") => `(tactic| repeat' (walk_at "rd1"))
section
variable {P : Program} {w : World} {K : PySem.W.Frag} {mg : Str → Option Value} {base : Heap} {A : Ad}
/-- a meal's bounds, also while they are locked -/
def MlR (K : PySem.W.Frag) (C : Addr) (H : Hp) (p : Addr) (ys : List Str) (lo hi : Str → Int) : Prop := ∃ (dx qb qw qp : Addr) (kvs : List (Key × V)), H p = some (.ins C dx [("bounds", .ref qb), ("wished", .ref qw), ("places", .ref qp)]) ∧ Rd H qb (.dK kvs) ∧ Pr2 K H ys (fun n => .int (lo n)) (fun n => .int (hi n)) kvs
theorem MlR.up {C : Addr} {H H' : Hp} {p : Addr} {ys : List Str} {lo hi : Str → Int} (h : MlR K C H p ys lo hi) (s : Same H H') : MlR K C H' p ys lo hi := by
  obtain ⟨dx, qb, qw, qp, kvs, h1, h2, h3⟩ := h
  exact ⟨dx, qb, qw, qp, kvs, s _ _ h1, rdUp h2 s, h3.up s⟩
theorem MlAt.r {C : Addr} {H : Hp} {p : Addr} {ys : List Str} {lo hi : Str → Int} {ds es : List PyData} (M : MlAt K C H p ys lo hi ds es) : MlR K C H p ys lo hi := by
  obtain ⟨dx, qb, qw, qp, kvs, ws, ps, hp, hb, hP, _⟩ := M.ex
  exact ⟨dx, qb, qw, qp, kvs, hp, .inl hb, hP⟩
/-- a lock on another dict keeps books -/
theorem BkAt.frz {C : Addr} {H : Hp} {p d : Addr} {zs : List Str} {hk : Str → Str} {wt : Str → Int} {kvs : List (Key × V)} {od : Obj} (B : BkAt C H p zs hk wt) (hd : H d = some (.dK kvs)) (hn : ∃ n a, (Sum.inr n, V.ref a) ∈ kvs) : BkAt C (upd H d (.frz od (.dK kvs))) p zs hk wt := by
  obtain ⟨dx, qh, qw, h1, h2, h3⟩ := B.ex
  obtain ⟨n, a, hm⟩ := hn
  have n1 : p ≠ d := fun e => by rw [e, hd] at h1; cases h1
  have n2 : qh ≠ d := fun e => by
    rw [e, hd] at h2
    have e2 := HO.dK.inj (Option.some.inj h2)
    rw [e2] at hm
    obtain ⟨z, _, ez⟩ := List.mem_map.mp hm
    cases ez
  have n3 : qw ≠ d := fun e => by
    rw [e, hd] at h3
    have e2 := HO.dK.inj (Option.some.inj h3)
    rw [e2] at hm
    obtain ⟨z, _, ez⟩ := List.mem_map.mp hm
    cases ez
  exact ⟨dx, qh, qw, by rw [upd_ne n1]; exact h1, by rw [upd_ne n2]; exact h2, by rw [upd_ne n3]; exact h3⟩
end
end K5
set_option Elab.async false
set_option linter.all false
set_option maxRecDepth 100000
set_option maxHeartbeats 4000000
namespace K5
open PySem L2
local macro_rules | `(tactic| walk_at "rd1") => `(tactic| first
  | refine ⟨_, _, rfl, rfl, ?_⟩
  | refine ⟨_, _, _, _, rfl, rfl, SqL.of (by assumption), rfl, ?_⟩
  | refine ⟨_, _, _, _, rfl, rfl, (by assumption), rfl, ?_⟩
  | refine .inl ⟨_, rfl, ?_⟩
  | refine ⟨_, rfl, ?_⟩
  | refine ⟨(by unfold CMul; omega), ?_⟩
  | refine ⟨(by unfold CPow; omega), ?_⟩
  | refine ⟨(by (try dsimp only); omega), ?_⟩
  | refine ⟨(by unfold CDiv; omega), ?_⟩
  | fail "rd1")
local macro_rules | `(tactic| walk_at "rd") => `(tactic| repeat' (walk_at "rd1"))
open Own
section
variable {P : Program} {w : World} {K : PySem.W.Frag} {mg : Str → Option Value} {base : Heap} {A : Ad}
theorem tabs_keep {Ts : List (Addr × Str)} {H H' : Hp} (t : LamX.Tabs Ts H) (up : ∀ x o, H x = some o → (∀ xs, o ≠ .lst xs) → H' x = some o) : LamX.Tabs Ts H' := fun p hp => by
  obtain ⟨ps, h1, h2, h3⟩ := t p hp
  refine ⟨ps, up _ _ h1 (fun xs z => by cases z), h2, fun pos cv hc => ?_⟩
  obtain ⟨c2, e2, e3⟩ := h3 pos cv hc
  exact ⟨c2, e2, up _ _ e3 (fun xs z => by unfold LamX.CodeO at z; cases z)⟩
theorem tabs_gs {Ts : List (Addr × Str)} {st c : Addr} {b : Int} {H H' : Hp} (S : Sta H st c b) (t : LamX.Tabs Ts H) (s : Same (er H st) (er H' st)) : LamX.Tabs Ts H' := by
  obtain ⟨cs, i, l, m, n, e1, _⟩ := S.ex
  exact tabs_keep t fun x o e ne => (er_same _ _) _ _ (s _ _ (er_of (fun z => by rw [z, e1] at e; exact ne _ (Option.some.inj e).symm) e))
theorem tabs_set {Ts : List (Addr × Str)} {L : Addr} {H : Hp} {xs ys : List V} (t : LamX.Tabs Ts H) (h : H L = some (.lst xs)) : LamX.Tabs Ts (upd H L (.lst ys)) := tabs_keep t fun x o e ne => by
  rw [upd_ne fun z => ?_]
  · exact e
  · rw [z, h] at e; exact ne _ (Option.some.inj e).symm
/-- the state of the draws and the tables -/
structure BdT (Ts : List (Addr × Str)) (st c : Addr) (b : Int) (H : Hp) : Prop where
  sta : Sta H st c b
  tab : LamX.Tabs Ts H
theorem BdT.gs {Ts : List (Addr × Str)} {st c : Addr} {b b' : Int} {H H' : Hp} (B : BdT Ts st c b H) (g : Gs st c H H' b') : BdT Ts st c b' H' := ⟨g.sta, tabs_gs B.sta B.tab g.same⟩
theorem BdT.same {Ts : List (Addr × Str)} {st c : Addr} {b : Int} {H H' : Hp} (B : BdT Ts st c b H) (s : Same H H') : BdT Ts st c b H' := B.gs (Gs.of_same B.sta s)
theorem BdT.ext {Ts : List (Addr × Str)} {st c : Addr} {b : Int} {H H' : Hp} (B : BdT Ts st c b H) (e : LamX.ExtN H H') (t : LamX.Tabs Ts H') : BdT Ts st c b H' := by
  obtain ⟨cs, i, l, m, n, e1, e2, r⟩ := B.sta.ex
  exact ⟨⟨cs, i, l, m, n, e _ _ e1 (fun _ z => by unfold five at z; cases z), er_of (er_some e2).1 (e _ _ (er_some e2).2 (fun _ z => by cases z)), r⟩, t⟩
theorem BdT.le {Ts : List (Addr × Str)} {st c : Addr} {b b' : Int} {H : Hp} (B : BdT Ts st c b H) (hb : b ≤ b') (h9 : b' ≤ 1000000) : BdT Ts st c b' H := ⟨B.sta.le hb h9, B.tab⟩
def MonoH (F : Hp → Prop) : Prop := ∀ E E', Same E E' → F E → F E'
/-- a list M that grows while lambdas run: what it holds, and facts F of the heap without M and the tables -/
structure Lp (Ts : List (Addr × Str)) (H0 : Hp) (F : Hp → Prop) (M : Addr) (xs : List V) (H : Hp) : Prop where
  at_ : H M = some (.lst xs)
  f : F (nE H M)
  tab : LamX.Tabs Ts H
  sm : Same (nt H0) (nE H M)
theorem Lp.start {Ts : List (Addr × Str)} {H0 G : Hp} {F : Hp → Prop} {M : Addr} {xs : List V} (hF : MonoH F) (nM : G M = none) (f : F (nt G)) (t : LamX.Tabs Ts G) (sm : Same (nt H0) (nt G)) : Lp Ts H0 F M xs (upd G M (.lst xs)) :=
  ⟨upd_same, hF _ _ (nt_mono (same_erp nM)) f, t.ext (Same.new nM), sm.trans (nt_mono (same_erp nM))⟩
theorem Lp.ext {Ts : List (Addr × Str)} {H0 C G : Hp} {F : Hp → Prop} {M : Addr} {xs : List V} (L : Lp Ts H0 F M xs C) (hF : MonoH F) (e : LamX.ExtN C G) (t : LamX.Tabs Ts G) : Lp Ts H0 F M xs G :=
  ⟨e _ _ L.at_ (fun _ q => nomatch q), hF _ _ (nE_ext e) L.f, t, L.sm.trans (nE_ext e)⟩
theorem Lp.same {Ts : List (Addr × Str)} {H0 C G : Hp} {F : Hp → Prop} {M : Addr} {xs : List V} (L : Lp Ts H0 F M xs C) (hF : MonoH F) (s : Same C G) : Lp Ts H0 F M xs G :=
  ⟨s _ _ L.at_, hF _ _ (nE_mono s) L.f, L.tab.ext s, L.sm.trans (nE_mono s)⟩
theorem Lp.app {Ts : List (Addr × Str)} {H0 G : Hp} {F : Hp → Prop} {M : Addr} {xs : List V} (L : Lp Ts H0 F M xs G) (v : V) : Lp Ts H0 F M (xs ++ [v]) (upd G M (.lst (xs ++ [v]))) := by
  have eM : nE (upd G M (.lst (xs ++ [v]))) M = nE G M := by unfold nE; rw [er_upd]
  exact ⟨upd_same, by rw [eM]; exact L.f, tabs_set L.tab L.at_, by rw [eM]; exact L.sm⟩
theorem Lp.out {Ts : List (Addr × Str)} {H0 G : Hp} {F : Hp → Prop} {M : Addr} {xs : List V} (L : Lp Ts H0 F M xs G) : LamX.ExtN H0 G := ext_nt (L.sm.trans (nt_mono (er_same _ _)))
theorem Lp.u {Ts : List (Addr × Str)} {H0 G : Hp} {F : Hp → Prop} {M : Addr} {xs : List V} (L : Lp Ts H0 F M xs G) (hF : MonoH F) : F G := hF _ _ nE_same L.f
theorem MlAt.nt {C : Addr} {H : Hp} {p : Addr} {ys : List Str} {lo hi : Str → Int} {ds es : List PyData} (M : MlAt K C H p ys lo hi ds es) : MlAt K C (nt H) p ys lo hi ds es := by
  obtain ⟨dx, qb, qw, qp, kvs, ws, ps, hp, hb, hP, hw, hA, hq, hZ⟩ := M.ex
  exact ⟨dx, qb, qw, qp, kvs, ws, ps, nt_of hp (fun _ z => nomatch z), nt_of hb (fun _ z => nomatch z), hP.nt, sqtNt hw, dpAllNt hA, sqtNt hq, dpAllNt hZ⟩
theorem BkAt.nt {C : Addr} {H : Hp} {p : Addr} {ys : List Str} {hk : Str → Str} {wt : Str → Int} (B : BkAt C H p ys hk wt) : BkAt C (nt H) p ys hk wt := by
  obtain ⟨dx, qh, qw, h1, h2, h3⟩ := B.ex
  exact ⟨dx, qh, qw, nt_of h1 (fun _ z => nomatch z), nt_of h2 (fun _ z => nomatch z), nt_of h3 (fun _ z => nomatch z)⟩
theorem HgF.nt {C : Addr} {H : Hp} {b : Addr} {zs : List Str} {hk : Str → Str} (B : HgF C H b zs hk) : HgF C (nt H) b zs hk := by
  obtain ⟨dy, qh, h1, h2⟩ := B
  exact ⟨dy, qh, nt_of h1 (fun _ z => nomatch z), nt_of h2 (fun _ z => nomatch z)⟩
end
end K5
set_option Elab.async false
set_option linter.all false
set_option maxRecDepth 100000
set_option maxHeartbeats 4000000
namespace K5
open PySem L2
local macro_rules | `(tactic| walk_at "rd1") => `(tactic| first
  | refine ⟨_, _, rfl, rfl, ?_⟩
  | refine ⟨_, _, _, _, rfl, rfl, SqL.of (by assumption), rfl, ?_⟩
  | refine ⟨_, _, _, _, rfl, rfl, (by assumption), rfl, ?_⟩
  | refine .inl ⟨_, rfl, ?_⟩
  | refine ⟨_, rfl, ?_⟩
  | refine ⟨(by unfold CMul; omega), ?_⟩
  | refine ⟨(by unfold CPow; omega), ?_⟩
  | refine ⟨(by (try dsimp only); omega), ?_⟩
  | refine ⟨(by unfold CDiv; omega), ?_⟩
  | fail "rd1")
local macro_rules | `(tactic| walk_at "rd") => `(tactic| repeat' (walk_at "rd1"))
open Own
section
variable {P : Program} {w : World} {K : PySem.W.Frag} {mg : Str → Option Value} {base : Heap} {A : Ad}
theorem cutTs {ns : List Str} {r : Int} (h0 : 0 ≤ r) (h1 : r ≤ ns.length) : cutV (ns.map V.str) none (some r) = (ns.take r.toNat).map V.str := by
  have e2 : r = ((r.toNat : Nat) : Int) := by omega
  unfold cutV
  rw [e2, HT.sIx_none, HT.sIx_nat, List.drop_zero, Nat.sub_zero, List.map_take, List.length_map, Int.toNat_natCast, Nat.min_eq_left (by omega)]
theorem ixLOf {X : Cx} {K : PySem.W.Frag} (h : X.K = K) : IxR X (rIxL K) := h ▸ ix_list
theorem slLOf {X : Cx} {K : PySem.W.Frag} (h : X.K = K) : SlR X (rSlL K) := h ▸ sl_list
theorem atI0 {α : Type} (x : α) (r : List α) : atI (x :: r) 0 = some x := by
  unfold atI ixN
  rw [if_pos (by omega)]
  simp
theorem keep_er {H H' : Hp} {st c : Addr} {b : Int} (S : Sta H' st c b) : KeepM H H' (er H' st) := fun x u e nl _ => er_of (fun z => by
  obtain ⟨cs, i, l, m, n, h, _⟩ := S.ex
  rw [z, h] at e
  exact nl _ (Option.some.inj e).symm) e
theorem asc_rowsF {ns : List Str} {hk : Str → Str} {rs : Rows} (a : Asc (rowsF ns hk) rs) : rs = rowsF (ksR rs) hk ∧ (ksR rs).Perm ns ∧ PyProof.Rows.sortedS (ksR rs) = true := by
  have p : (ksR rs).Perm ns := by have := a.keys; rwa [ksR_F] at this
  have key : ∀ l : Rows, (∀ k h, (k, h) ∈ l → (k, h) ∈ rowsF ns hk) → l = rowsF (ksR l) hk := fun l => by
    induction l with
    | nil => intro _; rfl
    | cons r l ih =>
      intro hm
      have e := ih fun k h m => hm k h (List.mem_cons_of_mem _ m)
      have m := of_mem_F (hm r.1 r.2 (List.mem_cons_self ..))
      show r :: l = (r.1, hk r.1) :: rowsF (ksR l) hk
      rw [← e, ← m.2]
  exact ⟨key rs a.mem, p, a.asc⟩
theorem mk_hang {H : Hp} {C dd : Addr} {ns : List Str} {hk : Str → Str} {rk : Str → Nat} {Q : Addr → Hp → Prop} {E : XK}
    (hd : H dd = some (.dK (kvF ns fun n => .str (hk n)))) (hO : ROk rk (rowsF ns hk))
    (k : ∀ p H' ys, H p = none → Same H H' → HgF C H' p ys hk → ys.Perm ns → PyProof.Rows.sortedS ys = true → Q p H') :
    ∀ p dx, H p = none → H dx = none → dx ≠ p → spHInit C [.ref p, .ref dd] (upd (upd H dx (.own p)) p (.ins C dx [])) (fun v H' => v = .non ∧ Q p H') E := by
  intro p dx np ndx ndp
  have sM : Same H (upd (upd H dx (.own p)) p (.ins C dx [])) := fun b u e => by rw [upd_ne (ne_of_none e np), upd_ne (ne_of_none e ndx)]; exact e
  have sE : Same H (er (upd (upd H dx (.own p)) p (.ins C dx [])) p) := fun b u e => er_of (ne_of_none e np) (sM _ _ e)
  refine ⟨p, dx, dd, rk, rowsF ns hk, rfl, upd_same, by rw [kvR_F]; exact sM _ _ hd, hO, fun H' q rs hg nq asc sS => ⟨rfl, ?_⟩⟩
  obtain ⟨e1, e2, e3⟩ := asc_rowsF asc
  obtain ⟨dy, hy⟩ := hg.ex
  exact k p H' (ksR rs) np (fun b u e => (er_same _ _) _ _ (sS _ _ (sE _ _ e))) ⟨dy, q, hy, by rw [hg.at_]; conv => lhs; rw [e1, kvR_F]⟩ e2 e3
end
end K5
set_option Elab.async false
set_option linter.all false
set_option maxRecDepth 100000
set_option maxHeartbeats 4000000
namespace K5
open PySem L2
local macro_rules | `(tactic| walk_at "rd1") => `(tactic| first
  | refine ⟨_, _, rfl, rfl, ?_⟩
  | refine ⟨_, _, _, _, rfl, rfl, SqL.of (by assumption), rfl, ?_⟩
  | refine ⟨_, _, _, _, rfl, rfl, (by assumption), rfl, ?_⟩
  | refine .inl ⟨_, rfl, ?_⟩
  | refine ⟨_, rfl, ?_⟩
  | refine ⟨(by unfold CMul; omega), ?_⟩
  | refine ⟨(by unfold CPow; omega), ?_⟩
  | refine ⟨(by (try dsimp only); omega), ?_⟩
  | refine ⟨(by unfold CDiv; omega), ?_⟩
  | fail "rd1")
local macro_rules | `(tactic| walk_at "rd") => `(tactic| repeat' (walk_at "rd1"))
open Own
section
variable {P : Program} {w : World} {K : PySem.W.Frag} {mg : Str → Option Value} {base : Heap} {A : Ad}
theorem KeyL.up {H H' : Hp} {y : V} {k : MK} (h : KeyL K H y k) (s : Same H H') : KeyL K H' y k := by
  cases k with
  | inl z => exact h
  | inr ks => obtain ⟨a, e, q⟩ := h; exact ⟨a, e, stUp q s⟩
end
end K5
set_option Elab.async false
set_option linter.all false
set_option maxRecDepth 100000
set_option maxHeartbeats 4000000
namespace K5
open PySem L2
local macro_rules | `(tactic| walk_at "rd1") => `(tactic| first
  | refine ⟨_, _, rfl, rfl, ?_⟩
  | refine ⟨_, _, _, _, rfl, rfl, SqL.of (by assumption), rfl, ?_⟩
  | refine ⟨_, _, _, _, rfl, rfl, (by assumption), rfl, ?_⟩
  | refine .inl ⟨_, rfl, ?_⟩
  | refine ⟨_, rfl, ?_⟩
  | refine ⟨(by unfold CMul; omega), ?_⟩
  | refine ⟨(by unfold CPow; omega), ?_⟩
  | refine ⟨(by (try dsimp only); omega), ?_⟩
  | refine ⟨(by unfold CDiv; omega), ?_⟩
  | fail "rd1")
local macro_rules | `(tactic| walk_at "rd") => `(tactic| repeat' (walk_at "rd1"))
section
variable {P : Program} {w : World} {K : PySem.W.Frag} {mg : Str → Option Value} {base : Heap} {A : Ad}
theorem paired_at {α β : Type} {R : α → β → Prop} : ∀ {xs : List α} {ys : List β}, Paired R xs ys → ∀ {i : Nat} {x : α}, xs[i]? = some x → ∃ y, ys[i]? = some y ∧ R x y
  | _, _, .nil, i, x, h => by cases h
  | _, _, .cons a b, 0, x, h => by cases h; exact ⟨_, rfl, a⟩
  | _, _, .cons a b, i + 1, x, h => paired_at b (i := i) h
end
end K5
set_option Elab.async false
set_option linter.all false
set_option maxRecDepth 100000
set_option maxHeartbeats 4000000
namespace K5
open PySem L2
local macro_rules | `(tactic| walk_at "rd1") => `(tactic| first
  | refine ⟨_, _, rfl, rfl, ?_⟩
  | refine ⟨_, _, _, _, rfl, rfl, SqL.of (by assumption), rfl, ?_⟩
  | refine ⟨_, _, _, _, rfl, rfl, (by assumption), rfl, ?_⟩
  | refine .inl ⟨_, rfl, ?_⟩
  | refine ⟨_, rfl, ?_⟩
  | refine ⟨(by unfold CMul; omega), ?_⟩
  | refine ⟨(by unfold CPow; omega), ?_⟩
  | refine ⟨(by (try dsimp only); omega), ?_⟩
  | refine ⟨(by unfold CDiv; omega), ?_⟩
  | fail "rd1")
local macro_rules | `(tactic| walk_at "rd") => `(tactic| repeat' (walk_at "rd1"))
open Own
section
variable {P : Program} {w : World} {K : PySem.W.Frag} {mg : Str → Option Value} {base : Heap} {A : Ad}
theorem er_sta {H : Hp} {st c a : Addr} {b : Int} {o : HO} (S : Sta H st c b) (h : H a = some o) (n : ∀ xs, o ≠ .lst xs) : er H st a = some o := er_of (fun e => by
  obtain ⟨cs, i, l, m, k, h1, _⟩ := S.ex
  rw [e, h1] at h
  exact n _ (Option.some.inj h).symm) h
theorem BkAt.sta {C p st c : Addr} {H : Hp} {b : Int} {ys : List Str} {hk : Str → Str} {wt : Str → Int} (S : Sta H st c b) (B : BkAt C H p ys hk wt) : BkAt C (er H st) p ys hk wt := by
  obtain ⟨dx, qh, qw, h1, h2, h3⟩ := B.ex
  exact ⟨dx, qh, qw, er_sta S h1 (fun _ z => nomatch z), er_sta S h2 (fun _ z => nomatch z), er_sta S h3 (fun _ z => nomatch z)⟩
end
end K5
set_option Elab.async false
set_option linter.all false
set_option maxRecDepth 100000
set_option maxHeartbeats 4000000
namespace K5
open PySem L2
local macro_rules | `(tactic| walk_at "rd1") => `(tactic| first
  | refine ⟨_, _, rfl, rfl, ?_⟩
  | refine ⟨_, _, _, _, rfl, rfl, SqL.of (by assumption), rfl, ?_⟩
  | refine ⟨_, _, _, _, rfl, rfl, (by assumption), rfl, ?_⟩
  | refine .inl ⟨_, rfl, ?_⟩
  | refine ⟨_, rfl, ?_⟩
  | refine ⟨(by unfold CMul; omega), ?_⟩
  | refine ⟨(by unfold CPow; omega), ?_⟩
  | refine ⟨(by (try dsimp only); omega), ?_⟩
  | refine ⟨(by unfold CDiv; omega), ?_⟩
  | fail "rd1")
local macro_rules | `(tactic| walk_at "rd") => `(tactic| repeat' (walk_at "rd1"))
section
variable {P : Program} {w : World} {K : PySem.W.Frag} {mg : Str → Option Value} {base : Heap} {A : Ad}
def spLoose (K : PySem.W.Frag) (n : Nat) : Sp := fun vs H Q _ => ∃ (st c : Addr) (v : V) (d : PyData) (b : Int), vs = [.ref st, v] ∧ Sta H st c b ∧ b + (cost d : Int) ≤ 1000000 ∧ Dp K (er H st) v d ∧ tq d = true ∧ d.depth < n ∧
  ∀ r d' L H', Gs st c H H' (b + (cost d : Int)) → Lz (er H' st) r d' L → strip d' = d → (∀ a ∈ L, er H st a = none) → Q r H'
theorem ok_loose (T : Txt K mg A) : ∀ n : Nat, FnOk P w K mg base CX0 (n + 1) A.a__law_loose A.d__law_loose P__law_loose (spLoose K n)
  | 0 => no_fn fun vs H Q E ⟨_, _, _, _, _, _, _, _, _, _, h, _⟩ => absurd h (Nat.not_lt_zero _)
  | n + 1 => by
    have G__law_loose : FnOk P w K mg base CX0 (n + 1) A.a__law_loose A.d__law_loose P__law_loose (spLoose K n) := ok_loose T n
    have G__law_take : FnOk P w K mg base CX0 1 A.a__law_take A.d__law_take P__law_take spTake := ok_take T
    refine T.f__law_loose.ok sc__law_loose (fun vs H Q E h => ?_) (fun cdv A' outer s H vs Q E hr h => ?_)
    · obtain ⟨st, c, v, d, b, rfl, _⟩ := h
      rfl
    · obtain ⟨st, c, v, d, b, rfl, S, hb, hv, ht, hd, k⟩ := h
      refine ⟨_, (pss_cons (ps_if (pt_val (pe_callB call_isiT (by rfl) T.isinstance (by decide +kernel) (pa_cons (pv 1) (pa_cons (pe_tup (pa_cons (pe_bltn (v := .ty "list") (u := .type "list") (by rfl) T.list (by decide +kernel) rfl) (pa_cons (pe_bltn (v := .ty "tuple") (u := .type "tuple") (by rfl) T.tuple (by decide +kernel) rfl) pa_nil))) pa_nil))))
 (pss_cons (ps_setLc (i := 2) (own := [("_law_x", 3)]) (g := gName 3)  (by rfl) sc__law_loose.nd rfl rfl (sw_true rfl rfl rfl (by decide +kernel)) (EnT.pi_or (pi_list (pv 1)) (pi_tup (pv 1))) (blkOk_by (N := N__law_loose) (sc := defScope s__law_loose) (by decide +kernel)) (fun _ _ _ _ _ => pg_name (i := 3) sc__law_loose.nd rfl (Or.inl rfl)) (fun _ _ _ _ _ => pts_nil) (fun _ _ _ _ _ => (pe_call G__law_loose (hr.mono (by omega)) (by rfl) T.g__law_loose T.f__law_loose.kp T.b__law_loose .nil pass0 (pa_cons (pv 0) (pa_cons (pv 3) pa_nil)))))
 (pss_one (ps_ret (pe_ifExp (pt_cmpR op_eq (pe_call G__law_take (hr.mono (by omega)) (by rfl) T.g__law_take T.f__law_take.kp T.b__law_take .nil pass0 (pa_cons (pv 0) (pa_cons pe_int pa_nil))) pe_int (nomark _)) (pv 2) (pe_callTy call_tuple_of (by rfl) T.tuple (by decide +kernel) (pa_cons (pv 2) pa_nil))))))
 pss_nil)
 (pss_one (ps_ret (pv 1)))), ?_⟩
      refine ⟨_, rfl, by show 2 ≤ sizeLine; decide, fun p hp => ?_⟩
      have hv0 := dpSame (er_same H st) hv
      cases hv with
      | str z =>
        refine ⟨_, p, _, _, _, false, rfl, upd_same, .cons (.ty _) (.cons (.ty _) .nil), .base (.str _), kit2 (a := "str") (b := "list") (c := "tuple") (r := false) (s := false) (by decide +kernel) (by decide +kernel), _, rfl, iteF ⟨_, rfl, ?_⟩⟩
        exact k _ _ [] _ ((Gs.of_same S (Same.new hp)).le (by omega) hb) (.str _) (strip_str _) (fun a m => by cases m)
      | int z =>
        refine ⟨_, p, _, _, _, false, rfl, upd_same, .cons (.ty _) (.cons (.ty _) .nil), .base (.int _), kit2 (a := "int") (b := "list") (c := "tuple") (r := false) (s := false) (by decide +kernel) (by decide +kernel), _, rfl, iteF ⟨_, rfl, ?_⟩⟩
        exact k _ _ [] _ ((Gs.of_same S (Same.new hp)).le (by omega) hb) (.int _) (strip_int _) (fun a m => by cases m)
      | non => simp [tq] at ht
      | bl z => simp [tq] at ht
      | lst _ _ => simp [tq] at ht
      | @tup t xs ds ha hA =>
        simp only [tq, Bool.and_eq_true, decide_eq_true_eq] at ht
        have hl : xs.length = ds.length := dpLen hA
        have t0 : SqT K H t xs := stUp ha (er_same _ _)
        have s1 : Same H (upd H p (.tup [.ty "list", .ty "tuple"])) := Same.new hp
        have hpt : upd H p (.tup [.ty "list", .ty "tuple"]) p = some (.tup [.ty "list", .ty "tuple"]) := upd_same
        have g1 := Gs.of_same S s1
        generalize upd H p (.tup [.ty "list", .ty "tuple"]) = H1 at s1 hpt g1 ⊢
        refine ⟨_, p, _, _, _, true, rfl, hpt, .cons (.ty _) (.cons (.ty _) .nil), tyT (stUp t0 s1), kit2 (a := "tuple") (b := "list") (c := "tuple") (r := false) (s := true) (by decide +kernel) (by decide +kernel), _, rfl, iteT ?_⟩
        have A1 : DpAll K (er H1 st) xs ds := dpAllSame g1.same hA
        have ce : (cost (.tuple ds) : Int) = (costAll ds : Int) + 1 := by simp [cost]
        rw [ce] at hb k
        refine seq_or (H0 := er H1 st) (.inr (stUp ha g1.same)) (er_same _ _) rfl fun J Gd wk hG => fun D hD => ?_
        have mD := g1.sta.ne hD
        have eD := er_none (st := st) hD
        refine lc_it wk (fun i H' => ∃ (acc : List V) (es : List PyData) (L : List Addr), er H' st D = some (.lst acc) ∧ LzAll (er (er H' st) D) acc es L ∧ stripAll es = ds.take i ∧ (∀ a ∈ L, er H st a = none) ∧ Gs st c H1 H' (b + (costAll (ds.take i) : Int)))
          ⟨[], [], [], er_of mD upd_same, .nil, rfl, (fun a m => by cases m), by simpa [costAll] using (Gs.refl g1.sta).new hD⟩ (fun i H' _ z => ?_) ?_ (fun H2 z => ?_)
        · obtain ⟨_, _, _, _, _, _, _, g⟩ := z
          exact hG _ (g.same.trans (er_same _ _))
        · rintro i x H' H'' hi ⟨acc, es, L, hD1, hZ, hS, hL, g⟩ ⟨rfl, hx⟩
          obtain ⟨d, hd1, hd2⟩ := dpGet A1 hx
          have hi2 : i < ds.length := (List.getElem?_eq_some_iff.mp hd1).1
          have ct := cost_take hd1
          have cl := cost_le ds (i + 1)
          have dd : d.depth < n := by
            have q := PyData.depth_le_depthAll ds d (List.mem_of_getElem? hd1)
            have q2 : PyData.depth (.tuple ds) < n + 1 := hd
            simp only [PyData.depth] at q2
            omega
          refine ⟨rfl, _, rfl, _, rfl, st, c, x, d, _, rfl, g.sta, by omega, dpSame g.same hd2, tqAll_mem ht.2 d (List.mem_of_getElem? hd1), dd, fun r d' L1 H2 g2 Z1 S1 F1 => ?_⟩
          have hD2 := g2.same _ _ hD1
          have Z := lzAllUp hZ (er_mono g2.same)
          have nD : D ∉ L1 := fun m => by rw [F1 _ m] at hD1; cases hD1
          have Z1 : Lz (er (er H2 st) D) r d' L1 := lzKeep Z1 fun b u e q => er_of (fun z => by
            rcases q with m | ⟨ys, rfl⟩
            · exact nD (by rw [← z]; exact m)
            · rw [z, hD2] at e; cases e) e
          have old : ∀ a ∈ L, a ∉ L1 := fun a m m1 => by
            obtain ⟨ys, e⟩ := lzAllAt hZ a m
            have e2 := (er_some e).2
            rw [F1 a m1] at e2; cases e2
          have al : acc.length ≤ 64 := by
            have q := lzLen hZ
            have q2 := congrArg List.length hS
            rw [stripAll_map, List.length_map, List.length_take] at q2
            omega
          refine ⟨acc, (er_same _ _) _ _ hD2, Nat.lt_of_le_of_lt al (by decide), acc ++ [r], es ++ [d'], L ++ L1, ?_, ?_, ?_, fun a m => ?_, ?_⟩
          · rw [er_updp mD, upd_same]
          · rw [er_updp mD, er_upd]
            exact lzSnoc Z1 Z old
          · rw [stripAll_map, List.map_append, ← stripAll_map, hS, List.take_succ, hd1, List.map_cons, List.map_nil, S1]; rfl
          · rcases List.mem_append.mp m with m | m
            · exact hL a m
            · exact (g1.same.trans g.same).free (F1 a m)
          · exact ((g.trans g2).set g1.sta.hc eD mD).le (by omega) (by omega)
        · obtain ⟨acc, es, L, hD1, hZ, hS, hL, g⟩ := z
          rw [hl, List.take_length] at hS g
          have nDL : D ∉ L := fun m => by
            obtain ⟨ys, e⟩ := lzAllAt hZ D m
            exact (er_some e).1 rfl
          have fD : er H st D = none := g1.same.free eD
          have lE : es.length ≤ 64 := by
            have q2 := congrArg List.length hS
            rw [stripAll_map, List.length_map] at q2
            omega
          have sS : strip (.list es) = .tuple ds ∧ strip (.tuple es) = .tuple ds := by simp [strip, hS]
          refine ⟨_, rfl, st, c, 2, _, rfl, g.sta, by omega, by omega, by omega, fun r o hr0 hr1 S3 => ?_⟩
          have g3 := g1.trans (g.trans (Gs.of_upd S3))
          rw [← er_upd H2 st o] at hD1 hZ
          generalize upd H2 st o = H3 at S3 g3 hD1 hZ ⊢
          have hZ3 : LzAll (er H3 st) acc es L := lzAllUp hZ (er_same _ _)
          refine ⟨rfl, _, rfl, ite2 (fun q => ?_) (fun q => ?_)⟩
          · exact ⟨_, rfl, k _ (.list es) (D :: L) H3 (g3.le (by omega) (by omega)) (.lst hD1 hZ3 nDL lE) sS.1 fun a m => (List.mem_cons.mp m).elim (fun e => by rw [e]; exact fD) (hL a)⟩
          · refine ⟨_, rfl, D, _, rfl, .inl ⟨SqL.of ((er_same _ _) _ _ hD1), fun l nl => ?_⟩⟩
            have ml := S3.ne nl
            exact k _ (.tuple es) L _ ((g3.new nl).le (by omega) (by omega)) (.tup (er_of ml upd_same) (lzAllUp hZ3 (er_mono (Same.new nl))) lE) sS.2 hL
end
end K5
set_option Elab.async false
set_option linter.all false
set_option maxRecDepth 100000
set_option maxHeartbeats 4000000
namespace K5
open PySem L2
local macro_rules | `(tactic| walk_at "rd1") => `(tactic| first
  | refine ⟨_, _, rfl, rfl, ?_⟩
  | refine ⟨_, _, _, _, rfl, rfl, SqL.of (by assumption), rfl, ?_⟩
  | refine ⟨_, _, _, _, rfl, rfl, (by assumption), rfl, ?_⟩
  | refine .inl ⟨_, rfl, ?_⟩
  | refine ⟨_, rfl, ?_⟩
  | refine ⟨(by unfold CMul; omega), ?_⟩
  | refine ⟨(by unfold CPow; omega), ?_⟩
  | refine ⟨(by (try dsimp only); omega), ?_⟩
  | refine ⟨(by unfold CDiv; omega), ?_⟩
  | fail "rd1")
local macro_rules | `(tactic| walk_at "rd") => `(tactic| repeat' (walk_at "rd1"))
open Own
section
variable {P : Program} {w : World} {K : PySem.W.Frag} {mg : Str → Option Value} {base : Heap} {A : Ad}
def dishM : Mo → Str
  | .clock => "clock"
  | .edge _ n => n
def spDishOf2 (K : PySem.W.Frag) : Sp := fun vs H Q _ => ∃ (v : V) (o : Mo), vs = [v] ∧ MoV K H v o ∧ (∀ b n, o = .edge b n → PyData.strOk n = true) ∧ Q (.str (dishM o)) H
theorem ok_dishof2 (T : Txt K mg A) : FnOk P w K mg base CX0 1 A.a_dish_of A.d_dish_of P_dish_of (spDishOf2 K) := by
  refine T.f_dish_of.ok sc_dish_of (fun vs H Q E h => ?_) (fun cdv A' outer s H vs Q E hr h => ?_)
  · obtain ⟨v, o, rfl, _⟩ := h
    rfl
  · obtain ⟨v, o, rfl, hv, ok, k⟩ := h
    refine ⟨_, (pss_one (ps_ret (pe_ifExp (pt_cmpR (op_eqD hr.units) (pv 0) (pe_glob (v := .str "clock") (by rfl) T.g_CLOCK.choose_spec ⟨_, rfl⟩) (nomark _)) (pe_glob (v := .str "clock") (by rfl) T.g_CLOCK.choose_spec ⟨_, rfl⟩) (pe_ix (Own.ixLtOf (K := K) rfl) (pv 0) pe_int (fun _ _ => rfl))))), ?_⟩
    obtain ⟨d, hd, sh, ev⟩ := hv.clk ok
    refine ⟨_, rfl, _, _, hd, .str _, sh, by decide +kernel, _, rfl, ?_⟩
    rw [ev]
    cases o with
    | clock => exact iteT k
    | edge b n =>
      obtain ⟨a, rfl, hq⟩ := hv.edge
      exact iteF ⟨_, rfl, lt_of hq rfl k⟩
/-- a wish in a tuple, its moments in tuples or lists -/
def WiV (K : PySem.W.Frag) (H : Hp) (v : V) (w : Mo × Mo × Int) : Prop := ∃ (p : Addr) (x y : V), v = .ref p ∧ SqT K H p [x, y, .int w.2.2] ∧ MoV K H x w.1 ∧ MoV K H y w.2.1
theorem WiV.up {H H' : Hp} {v : V} {w : Mo × Mo × Int} (h : WiV K H v w) (s : Same H H') : WiV K H' v w := by
  obtain ⟨p, x, y, e, h1, h2, h3⟩ := h
  exact ⟨p, x, y, e, stUp h1 s, h2.up s, h3.up s⟩
theorem WiV.of {H : Hp} {v : V} {w : Mo × Mo × Int} (h : Dp K H v (wiD w)) : WiV K H v w := by
  obtain ⟨a, x, y, e, h1, h2, h3⟩ := dp_wi h
  exact ⟨a, x, y, e, h1, MoV.of h2, MoV.of h3⟩
def rowW (W : Str → List Str) (lo hi : Str → Int) (w : Mo × Mo × Int) : Str × Str × Int := (dishM w.1, dishM w.2.1, w.2.2 - sprM W lo hi w.1 w.2.1)
def tupR (r : Str × Str × Int) : List V := [.str r.1, .str r.2.1, .int r.2.2]
def spWishRow (K : PySem.W.Frag) : Sp := fun vs H Q _ => ∃ (v : V) (dh dd : Addr) (ys : List Str) (hk : Str → Str) (W : Str → List Str) (lo hi : Str → Int) (kvs : List (Key × V)) (w : Mo × Mo × Int), vs = [v, .ref dh, .ref dd] ∧ WiV K H v w ∧ w.1.on ys ∧ w.2.1.on ys ∧ H dh = some (.dK (kvR (rowsF ys hk))) ∧
  H dd = some (.dK kvs) ∧ Pr2 K H ys (fun n => .int (lo n)) (fun n => .int (hi n)) kvs ∧ ys.Nodup ∧ ys.length < 64 ∧ (∀ n ∈ ys, PyData.strOk n = true) ∧ WaysOk ys hk W ∧
  ∀ t H', Same H H' → H t = none → H' t = some (.tup (tupR (rowW W lo hi w))) → Q (.ref t) H'
theorem ok_wishrow (T : Txt K mg A) : FnOk P w K mg base CX0 5 A.a_wish_as_row A.d_wish_as_row P_wish_as_row (spWishRow K) := by
  have G_dish_of : FnOk P w K mg base CX0 1 A.a_dish_of A.d_dish_of P_dish_of (spDishOf2 K) := ok_dishof2 T
  have G_spread : FnOk P w K mg base CX0 4 A.a_spread A.d_spread P_spread (spSpread K) := (ok_spread T).mono (by omega)
  refine T.f_wish_as_row.ok sc_wish_as_row (fun vs H Q E h => ?_) (fun cdv A' outer s H vs Q E hr h => ?_)
  · obtain ⟨v, dh, dd, ys, hk, W, lo, hi, kvs, w, rfl, _⟩ := h
    rfl
  · obtain ⟨v, dh, dd, ys, hk, W, lo, hi, kvs, w, rfl, ⟨p, x, y, rfl, hq, hx, hy⟩, on1, on2, hh, hd, hP, nd, hl, ok, hW, k⟩ := h
    refine ⟨_, (pss_cons (ps_asg (pv 0) (pg_tup (by rfl) (pgs_cons (pg_name (i := 3) sc_wish_as_row.nd rfl (Or.inl rfl)) (pgs_cons (pg_name (i := 4) sc_wish_as_row.nd rfl (Or.inl rfl)) (pgs_cons (pg_name (i := 5) sc_wish_as_row.nd rfl (Or.inl rfl)) pgs_nil)))))
 (pss_one (ps_ret (pe_tup (pa_cons (pe_call G_dish_of (hr.mono (by omega)) (by rfl) T.g_dish_of T.f_dish_of.kp T.b_dish_of .nil pass0 (pa_cons (pv 3) pa_nil)) (pa_cons (pe_call G_dish_of (hr.mono (by omega)) (by rfl) T.g_dish_of T.f_dish_of.kp T.b_dish_of .nil pass0 (pa_cons (pv 4) pa_nil)) (pa_cons (pe_op op_sub (pv 5) (pe_call G_spread (hr.mono (by omega)) (by rfl) T.g_spread T.f_spread.kp T.b_spread .nil pass0 (pa_cons (pv 3) (pa_cons (pv 4) (pa_cons (pv 1) (pa_cons (pv 2) pa_nil)))))) pa_nil))))))), ?_⟩
    refine ⟨_, rfl, p, _, rfl, hq, rfl, _, _, rfl, _, _, rfl, _, _, rfl, rfl, ?_⟩
    dsimp only [List.set]
    refine ⟨_, rfl, x, w.1, rfl, hx, MoV.oks on1 ok, _, rfl, y, w.2.1, rfl, hy, MoV.oks on2 ok, ?_⟩
    refine ⟨_, rfl, _, rfl, _, rfl, _, rfl, _, rfl, x, y, dh, dd, ys, hk, W, lo, hi, kvs, w.1, w.2.1, rfl, hx, hy, on1, on2, hh, hd, hP, nd, hl, ok, hW, fun H' s1 => ?_⟩
    refine ⟨_, _, rfl, rfl, by show 3 ≤ sizeLine; decide, fun t nt => ?_⟩
    exact k t _ (s1.trans (Same.new nt)) (s1.free nt) upd_same
/-- a list of pairs of dishes, all as lists or tuples -/
def OrdV (K : PySem.W.Frag) (H : Hp) (v : V) (ps : List (Str × Str)) : Prop := ∃ (a : Addr) (xs : List V), v = .ref a ∧ SqX K H a xs ∧ Paired (fun x (p : Str × Str) => ∃ b, x = V.ref b ∧ SqX K H b [.str p.1, .str p.2]) xs ps
theorem OrdV.up {H H' : Hp} {v : V} {ps : List (Str × Str)} (h : OrdV K H v ps) (s : Same H H') : OrdV K H' v ps := by
  obtain ⟨a, xs, e, h1, h2⟩ := h
  exact ⟨a, xs, e, sxUp h1 s, paired_imp (fun x p ⟨b, e, q⟩ => ⟨b, e, sxUp q s⟩) h2⟩
theorem OrdV.nil {H : Hp} {a : Addr} (h : SqX K H a []) : OrdV K H (.ref a) [] := ⟨a, [], rfl, h, .nil⟩
/-- the wish for which an order stands -/
def ordW (p : Str × Str) : Mo × Mo × Int := (.edge false p.2, .edge true p.1, 0)
def spOrdWish (K : PySem.W.Frag) : Sp := fun vs H Q _ => ∃ (b : Addr) (p : Str × Str), vs = [.ref b] ∧ SqX K H b [.str p.1, .str p.2] ∧ ∀ v H', Same H H' → WiV K H' v (ordW p) → Q v H'
theorem ok_ordwish (T : Txt K mg A) : FnOk P w K mg base CX0 1 A.a_order_as_wish A.d_order_as_wish P_order_as_wish (spOrdWish K) := by
  refine T.f_order_as_wish.ok sc_order_as_wish (fun vs H Q E h => ?_) (fun cdv A' outer s H vs Q E hr h => ?_)
  · obtain ⟨b, p, rfl, _⟩ := h
    rfl
  · obtain ⟨b, p, rfl, hq, k⟩ := h
    refine ⟨_, (pss_cons (ps_asg (pv 0) (Own.pg_lt (by rfl) (pgs_cons (pg_name (i := 1) sc_order_as_wish.nd rfl (Or.inl rfl)) (pgs_cons (pg_name (i := 2) sc_order_as_wish.nd rfl (Or.inl rfl)) pgs_nil))))
 (pss_one (ps_ret (pe_tup (pa_cons (pe_tup (pa_cons pe_str (pa_cons (pv 2) pa_nil))) (pa_cons (pe_tup (pa_cons pe_str (pa_cons (pv 1) pa_nil))) (pa_cons pe_int pa_nil))))))), ?_⟩
    refine ⟨_, rfl, un2 hq ?_⟩
    refine ⟨_, rfl, by show 2 ≤ sizeLine; decide, fun t1 n1 => ⟨_, rfl, by show 2 ≤ sizeLine; decide, fun t2 n2 => ⟨by show 3 ≤ sizeLine; decide, fun t3 n3 => ?_⟩⟩⟩
    have s1 := Same.new n1 (o := .tup [.str "start", .str p.2])
    have s2 := Same.new n2 (o := .tup [.str "done", .str p.1])
    have s3 := Same.new n3 (o := .tup [.ref t1, .ref t2, .int 0])
    refine k _ _ ((s1.trans s2).trans s3) ⟨t3, .ref t1, .ref t2, rfl, SqT.of upd_same, MoV.of (.tup (SqT.of (s3 _ _ (s2 _ _ upd_same))) (.cons (.str _) (.cons (.str _) .nil))), MoV.of (.tup (SqT.of (s3 _ _ upd_same)) (.cons (.str _) (.cons (.str _) .nil)))⟩
theorem tyXSame {H H' : Hp} {x : V} {t : Value} (s : Same H H') (h : TyX K H x t) : TyX K H' x t := by
  cases h with
  | base h =>
    cases h with
    | non => exact .base .non
    | bl x => exact .base (.bl x)
    | int i => exact .base (.int i)
    | str x => exact .base (.str x)
    | flt x => exact .base (.flt x)
    | lst e => exact .base (.lst (s _ _ e))
    | frz e => exact .base (.frz (s _ _ e))
    | tup e => exact .base (.tup (s _ _ e))
    | dK e => exact .base (.dK (s _ _ e))
    | dT e => exact .base (.dT (s _ _ e))
    | ins e c a n k m => exact .base (.ins (s _ _ e) c a n k m)
  | byt b => exact .byt b
  | set e => exact .set (s _ _ e)
  | kList e c => exact .kList e c
  | kTuple e c => exact .kTuple e c
  | kDict e c => exact .kDict e c
  | fTuple e => exact .fTuple (s _ _ e)
  | fDict e => exact .fDict (s _ _ e)
/-- is_list of a list or a tuple, or of what is none -/
def spIsListX (K : PySem.W.Frag) : Sp := fun vs H Q _ => ∃ (x : V), vs = [x] ∧ ((∃ a xs, x = .ref a ∧ SqX K H a xs ∧ ∀ H', Same H H' → Q (.bl true) H') ∨ ∃ t, TyX K H x (.type t) ∧ kitB t "list" = some false ∧ kitB t "tuple" = some false ∧ ∀ H', Same H H' → Q (.bl false) H')
theorem ok_islistX (T : Txt K mg A) : FnOk P w K mg base CX0 1 A.a_is_list A.d_is_list P_is_list (spIsListX K) := by
  refine T.f_is_list.ok sc_is_list (fun vs H Q E h => ?_) (fun cdv A' outer s H vs Q E hr h => ?_)
  · obtain ⟨x, rfl, _⟩ := h
    rfl
  · obtain ⟨x, rfl, h⟩ := h
    refine ⟨_, (pss_one (ps_ret (pe_callB call_isiT (by rfl) T.isinstance (by decide +kernel) (pa_cons (pv 0) (pa_cons (pe_tup (pa_cons (pe_bltn (v := .ty "list") (u := .type "list") (by rfl) T.list (by decide +kernel) rfl) (pa_cons (pe_bltn (v := .ty "tuple") (u := .type "tuple") (by rfl) T.tuple (by decide +kernel) rfl) pa_nil))) pa_nil))))), ?_⟩
    refine ⟨_, rfl, by show 2 ≤ sizeLine; decide, fun p hp => ?_⟩
    have s1 : Same H (upd H p (.tup [.ty "list", .ty "tuple"])) := Same.new hp
    rcases h with ⟨a, xs, rfl, hq, k⟩ | ⟨t, ht, e1, e2, k⟩
    · rcases sxUp hq s1 with q | q
      · exact ⟨_, p, _, _, _, true, rfl, upd_same, .cons (.ty _) (.cons (.ty _) .nil), tyL q, kit2 (a := "list") (b := "list") (c := "tuple") (r := true) (s := false) (by decide +kernel) (by decide +kernel), k _ s1⟩
      · exact ⟨_, p, _, _, _, true, rfl, upd_same, .cons (.ty _) (.cons (.ty _) .nil), tyT q, kit2 (a := "tuple") (b := "list") (c := "tuple") (r := false) (s := true) (by decide +kernel) (by decide +kernel), k _ s1⟩
    · exact ⟨_, p, _, _, _, false, rfl, upd_same, .cons (.ty _) (.cons (.ty _) .nil), tyXSame s1 ht, kit2 (a := t) (b := "list") (c := "tuple") (r := false) (s := false) e1 e2, k _ s1⟩
/-- is_order of a pair of unlike dishes -/
def spIsOrder (K : PySem.W.Frag) : Sp := fun vs H Q _ => ∃ (b dd : Addr) (p : Str × Str) (kvs : List (Key × V)), vs = [.ref b, .ref dd] ∧ SqX K H b [.str p.1, .str p.2] ∧ Rd H dd (.dK kvs) ∧ (valV kvs (.inr p.1)).isSome = true ∧ (valV kvs (.inr p.2)).isSome = true ∧ p.1 ≠ p.2 ∧ ∀ H', Same H H' → Q (.bl true) H'
theorem ok_isorder (T : Txt K mg A) : FnOk P w K mg base CX0 2 A.a_is_order A.d_is_order P_is_order (spIsOrder K) := by
  have G_is_list : FnOk P w K mg base CX0 1 A.a_is_list A.d_is_list P_is_list (spIsListX K) := ok_islistX T
  have G_is_dish : FnOk P w K mg base CX0 1 A.a_is_dish A.d_is_dish P_is_dish (spIsDish K) := ok_isdish T
  refine T.f_is_order.ok sc_is_order (fun vs H Q E h => ?_) (fun cdv A' outer s H vs Q E hr h => ?_)
  · obtain ⟨b, dd, p, kvs, rfl, _⟩ := h
    rfl
  · obtain ⟨b, dd, p, kvs, rfl, hq, hd, h1, h2, ne, k⟩ := h
    refine ⟨_, (pss_cons (ps_if (PW.pt (pw_or (pt_not (pt_val (pe_call G_is_list (hr.mono (by omega)) (by rfl) T.g_is_list T.f_is_list.kp T.b_is_list .nil pass0 (pa_cons (pv 0) pa_nil)))) (pw_or1 (pt_cmpR op_ne (pe_callB call_len_seq (by rfl) T.len PySem.boot_len (pa_cons (pv 0) pa_nil)) pe_int (nomark _)))))
 (pss_one (ps_ret pe_bl))
 pss_nil)
 (pss_cons (ps_asg (pv 0) (Own.pg_lt (by rfl) (pgs_cons (pg_name (i := 2) sc_is_order.nd rfl (Or.inl rfl)) (pgs_cons (pg_name (i := 3) sc_is_order.nd rfl (Or.inl rfl)) pgs_nil))))
 (pss_one (ps_ret (pe_and (pe_call G_is_dish (hr.mono (by omega)) (by rfl) T.g_is_dish T.f_is_dish.kp T.b_is_dish .nil pass0 (pa_cons (pv 2) (pa_cons (pv 1) pa_nil))) (pe_and (pe_call G_is_dish (hr.mono (by omega)) (by rfl) T.g_is_dish T.f_is_dish.kp T.b_is_dish .nil pass0 (pa_cons (pv 3) (pa_cons (pv 1) pa_nil))) (pe_one (pe_cmpR op_ne (pv 2) (pv 3) (nomark _))))))))), ?_⟩
    refine ⟨_, rfl, _, rfl, .inl ⟨b, _, rfl, hq, fun H1 s1 => ⟨_, rfl, iteF ?_⟩⟩⟩
    refine ⟨_, rfl, b, _, rfl, sxUp hq s1, rfl, _, rfl, iteF ?_⟩
    refine ⟨_, rfl, un2 (sxUp hq s1) ?_⟩
    refine ⟨_, rfl, _, rfl, _, dd, kvs, rfl, rdUp hd s1, .inl ⟨_, rfl, ?_⟩⟩
    rw [h1]
    refine ⟨_, rfl, iteT ⟨_, rfl, _, rfl, _, dd, kvs, rfl, rdUp hd s1, .inl ⟨_, rfl, ?_⟩⟩⟩
    rw [h2]
    refine ⟨_, rfl, iteT ⟨_, rfl, _, rfl, rfl, ?_⟩⟩
    rw [show (!decide (V.str p.1 = V.str p.2)) = true by rw [decide_eq_false fun z => ne (V.str.inj z)]; rfl]
    exact k _ s1
def OrdOk (ys : List Str) (ps : List (Str × Str)) : Prop := ∀ p ∈ ps, p.1 ∈ ys ∧ p.2 ∈ ys ∧ p.1 ≠ p.2
def spChkOrd (K : PySem.W.Frag) : Sp := fun vs H Q _ => ∃ (o : V) (dd : Addr) (ps : List (Str × Str)) (kvs : List (Key × V)) (ys : List Str), vs = [o, .ref dd] ∧ OrdV K H o ps ∧ Rd H dd (.dK kvs) ∧ kvs.map (·.1) = ys.map Sum.inr ∧ OrdOk ys ps ∧ ∀ H', Same H H' → Q .non H'
theorem ok_chkord (T : Txt K mg A) : FnOk P w K mg base CX0 3 A.a_check_orders A.d_check_orders P_check_orders (spChkOrd K) := by
  have G_is_list : FnOk P w K mg base CX0 1 A.a_is_list A.d_is_list P_is_list (spIsListX K) := ok_islistX T
  have G_is_order : FnOk P w K mg base CX0 2 A.a_is_order A.d_is_order P_is_order (spIsOrder K) := ok_isorder T
  refine T.f_check_orders.ok sc_check_orders (fun vs H Q E h => ?_) (fun cdv A' outer s H vs Q E hr h => ?_)
  · obtain ⟨o, dd, ps, kvs, ys, rfl, _⟩ := h
    rfl
  · obtain ⟨o, dd, ps, kvs, ys, rfl, ⟨a, xs, rfl, hq, hP⟩, hd, hk, hO, k⟩ := h
    refine ⟨_, (pss_cons (ps_if (pt_not (pt_val (pe_call G_is_list (hr.mono (by omega)) (by rfl) T.g_is_list T.f_is_list.kp T.b_is_list .nil pass0 (pa_cons (pv 0) pa_nil))))
 (pss_one ps_never)
 pss_nil)
 (pss_one (ps_for PassesOwn.never rfl (EnT.pi_or (pi_enum (by rfl) T.enumerate (pa_cons (pv 0) pa_nil)) (EnT.pi_enumT (by rfl) T.enumerate (pa_cons (pv 0) pa_nil))) (pg_tup (by rfl) (pgs_cons (pg_name (i := 2) sc_check_orders.nd rfl (Or.inl rfl)) (pgs_cons (pg_name (i := 3) sc_check_orders.nd rfl (Or.inl rfl)) pgs_nil)))
 (pss_one (ps_if (pt_not (pt_val (pe_call G_is_order (hr.mono (by omega)) (by rfl) T.g_is_order T.f_is_order.kp T.b_is_order .nil pass0 (pa_cons (pv 3) (pa_cons (pv 1) pa_nil)))))
 (pss_one ps_never)
 pss_nil))))), ?_⟩
    refine ⟨_, rfl, _, rfl, .inl ⟨a, _, rfl, hq, fun H1 s1 => ⟨_, rfl, iteF ?_⟩⟩⟩
    refine enum_or (sxUp hq s1) (Same.refl _) rfl fun J G wk hG => for_it wk (fun i σ' H' => ∃ x y, σ' = [some (.ref a), some (.ref dd), x, y] ∧ Same H1 H') ⟨none, none, rfl, Same.refl _⟩ (fun i σ' H' _ ⟨_, _, _, z⟩ => hG H' z) ?_ (fun σ' H' ⟨_, _, _, z⟩ => k _ (s1.trans z))
    rintro i x σ' H' H'' hi ⟨x2, x3, rfl, s2⟩ ⟨t, u, w', rfl, nt, rfl, e1, hx⟩
    cases e1
    have s3 := s2.trans (Same.new nt (o := .tup [.int (i : Nat), w']))
    refine ⟨t, _, rfl, SqT.of upd_same, rfl, _, _, rfl, _, _, rfl, rfl, ?_⟩
    obtain ⟨p, hp, b, rfl, hb⟩ := paired_at hP hx
    have m := List.mem_of_getElem? hp
    obtain ⟨m1, m2, ne⟩ := hO p m
    refine ⟨_, rfl, _, rfl, b, dd, p, kvs, rfl, sxUp hb (s1.trans s3), rdUp hd (s1.trans s3), by rw [key_some hk, decide_eq_true m1], by rw [key_some hk, decide_eq_true m2], ne, fun H3 s4 => ⟨_, rfl, iteF ?_⟩⟩
    exact ⟨_, _, rfl, s3.trans s4⟩
inductive Wd where
  | wait (n : Str) : Wd
  | wish (k : Nat) : Wd
  | order (k : Nat) : Wd
def Wd.nm : Wd → Str
  | .wait _ => "wait"
  | .wish _ => "wish"
  | .order _ => "order"
def Wd.val : Wd → V
  | .wait n => .str n
  | .wish k => .int (k : Nat)
  | .order k => .int (k : Nat)
def Wd.on (ys : List Str) (ws : List (Mo × Mo × Int)) (ps : List (Str × Str)) : Wd → Prop
  | .wait n => n ∈ ys
  | .wish k => k < ws.length
  | .order k => k < ps.length
def Wd.row (hk : Str → Str) (W : Str → List Str) (lo hi : Str → Int) (ws : List (Mo × Mo × Int)) (ps : List (Str × Str)) : Wd → Str × Str × Int
  | .wait n => (n, hk n, 0)
  | .wish k => rowW W lo hi (ws.getD k (.clock, .clock, 0))
  | .order k => rowW W lo hi (ordW (ps.getD k ("", "")))
theorem getD_of {α : Type} {xs : List α} {k : Nat} {d : α} (h : k < xs.length) : xs.getD k d = xs[k] := by rw [List.getD_eq_getElem?_getD, List.getElem?_eq_getElem h]; rfl
/-- an object that is the word of a row -/
def RowV (K : PySem.W.Frag) (H : Hp) (x : V) (wd : Wd) : Prop := ∃ a, x = .ref a ∧ SqX K H a [.str wd.nm, wd.val]
theorem RowV.up {H H' : Hp} {x : V} {wd : Wd} (h : RowV K H x wd) (s : Same H H') : RowV K H' x wd := by
  obtain ⟨a, e, q⟩ := h
  exact ⟨a, e, sxUp q s⟩
/-- an object that is no index of a wish or of an order -/
def NoWhich (K : PySem.W.Frag) (H : Hp) (nw no : Nat) (dk : PyData) (w : V) : Prop :=
  (PyData.eqv dk (.str "wish") = true → NoIx K H nw w) ∧ (PyData.eqv dk (.str "order") = true → NoIx K H no w)
/-- an object that is the word of no row -/
def NoRowV (K : PySem.W.Frag) (H : Hp) (ys : List Str) (nw no : Nat) (x : V) : Prop :=
  (∃ t, TyX K H x (.type t) ∧ kitB t "list" = some false ∧ kitB t "tuple" = some false) ∨ (∃ a xs, x = .ref a ∧ SqX K H a xs ∧ xs.length ≠ 2) ∨
  ∃ a k w dk, x = .ref a ∧ SqX K H a [k, w] ∧ Dp K H k dk ∧ SeqAt.shaped dk = true ∧
    ((PyData.eqv dk (.str "wait") = true ∧ ((∃ s, w = .str s ∧ s ∉ ys) ∨ ∃ t, TyX K H w (.type t) ∧ kitB t "str" = some false)) ∨ (PyData.eqv dk (.str "wait") = false ∧ NoWhich K H nw no dk w))
theorem NoIx.up {H H' : Hp} {n : Nat} {x : V} (h : NoIx K H n x) (s : Same H H') : NoIx K H' n x := h.imp id fun ⟨t, a, b⟩ => ⟨t, tyXSame s a, b⟩
theorem NoWhich.up {H H' : Hp} {nw no : Nat} {dk : PyData} {w : V} (h : NoWhich K H nw no dk w) (s : Same H H') : NoWhich K H' nw no dk w := ⟨fun z => (h.1 z).up s, fun z => (h.2 z).up s⟩
theorem NoRowV.up {H H' : Hp} {ys : List Str} {nw no : Nat} {x : V} (h : NoRowV K H ys nw no x) (s : Same H H') : NoRowV K H' ys nw no x := by
  rcases h with ⟨t, a, b⟩ | ⟨a, xs, e, q, n⟩ | ⟨a, k, w, dk, e, q, d, sh, h⟩
  · exact .inl ⟨t, tyXSame s a, b⟩
  · exact .inr (.inl ⟨a, xs, e, sxUp q s, n⟩)
  · refine .inr (.inr ⟨a, k, w, dk, e, sxUp q s, dpSame s d, sh, h.imp (fun ⟨z, h⟩ => ⟨z, h.imp id fun ⟨t, a, b⟩ => ⟨t, tyXSame s a, b⟩⟩) fun ⟨z, h⟩ => ⟨z, h.up s⟩⟩)
def spFoundWish (K : PySem.W.Frag) (CM : Addr) : Sp := fun vs H Q _ => ∃ (k w : V) (dk : PyData) (p : Addr) (o : V) (zs : List Str) (lo hi : Str → Int) (ws : List (Mo × Mo × Int)) (es : List PyData) (ps : List (Str × Str)), vs = [k, w, .ref p, o] ∧ Dp K H k dk ∧ SeqAt.shaped dk = true ∧ MlAt K CM H p zs lo hi (ws.map wiD) es ∧ OrdV K H o ps ∧
  ((∃ (j : Nat) (hj : j < ws.length), k = .str "wish" ∧ w = .int (j : Nat) ∧ ∀ v H', Same H H' → WiV K H' v ws[j] → Q v H') ∨ (∃ (j : Nat) (hj : j < ps.length), k = .str "order" ∧ w = .int (j : Nat) ∧ ∀ v H', Same H H' → WiV K H' v (ordW ps[j]) → Q v H') ∨
   (NoWhich K H ws.length ps.length dk w ∧ ∀ H', Same H H' → Q .non H'))
theorem dp_len {H : Hp} : ∀ {vs : List V} {ds : List PyData}, DpAll K H vs ds → vs.length = ds.length
  | _, _, .nil => rfl
  | _, _, .cons _ h => congrArg (· + 1) (dp_len h)
theorem ok_foundwish (T : Txt K mg A) : FnOk P w K mg base CX0 3 A.a_found_wish A.d_found_wish P_found_wish (spFoundWish K A.a_Meal) := by
  have G_is_index : FnOk P w K mg base CX0 2 A.a_is_index A.d_is_index P_is_index (spIsIdx K) := ok_isidx T
  have G_Meal_wishes : FnOk P w K mg base CX0 1 A.a_Meal_wishes A.d_Meal_wishes P_Meal_wishes (spMWishes K A.a_Meal) := ok_mwishes T
  have G_order_as_wish : FnOk P w K mg base CX0 1 A.a_order_as_wish A.d_order_as_wish P_order_as_wish (spOrdWish K) := ok_ordwish T
  refine T.f_found_wish.ok sc_found_wish (fun vs H Q E h => ?_) (fun cdv A' outer s H vs Q E hr h => ?_)
  · obtain ⟨k, w, dk, p, o, zs, lo, hi, ws, es, ps, rfl, _⟩ := h
    rfl
  · obtain ⟨kd, wv, dk, p, o, zs, lo, hi, ws, es, ps, rfl, hkd, sh, M, hO, h⟩ := h
    refine ⟨_, (pss_cons (ps_if (PW.pt (pw_and (pt_cmpR (op_eqD hr.units) (pv 0) pe_str (nomark _)) (pw_and1 (pt_val (pe_call G_is_index (hr.mono (by omega)) (by rfl) T.g_is_index T.f_is_index.kp T.b_is_index .nil pass0 (pa_cons (pv 1) (pa_cons (pe_meth0 (pv 2) T.cl_M T.m_wishes G_Meal_wishes (hr.mono (by omega)) T.b_Meal_wishes .nil pass0) pa_nil)))))))
 (pss_one (ps_ret (pe_ix ix_list (pe_meth0 (pv 2) T.cl_M T.m_wishes G_Meal_wishes (hr.mono (by omega)) T.b_Meal_wishes .nil pass0) (pv 1) (fun _ _ => rfl))))
 pss_nil)
 (pss_cons (ps_if (PW.pt (pw_and (pt_cmpR (op_eqD hr.units) (pv 0) pe_str (nomark _)) (pw_and1 (pt_val (pe_call G_is_index (hr.mono (by omega)) (by rfl) T.g_is_index T.f_is_index.kp T.b_is_index .nil pass0 (pa_cons (pv 1) (pa_cons (pv 3) pa_nil)))))))
 (pss_one (ps_ret (pe_call G_order_as_wish (hr.mono (by omega)) (by rfl) T.g_order_as_wish T.f_order_as_wish.kp T.b_order_as_wish .nil pass0 (pa_cons (pe_ix (Own.ixLtOf (K := K) rfl) (pv 3) (pv 1) (fun _ _ => rfl)) pa_nil))))
 pss_nil)
 (pss_one (ps_ret pe_non)))), ?_⟩
    obtain ⟨dx, qb, qw, qp, kvs, us, uq, hp, _⟩ := id M.ex
    rcases h with ⟨j, hj, rfl, rfl, k⟩ | ⟨j, hj, rfl, rfl, k⟩ | ⟨no, k⟩
    · cases hkd
      refine ⟨_, rfl, _, _, .str _, .str _, sh, by decide +kernel, _, rfl, ?_⟩
      rw [show PyData.eqv (.str "wish") (.str "wish") = true by decide +kernel]
      refine iteT ⟨_, rfl, _, rfl, p, dx, _, rfl, hp, rfl, p, zs, lo, hi, _, es, rfl, M, fun l us nl hA => ?_⟩
      have ul := dp_len hA
      rw [List.length_map] at ul
      refine ⟨_, l, us, rfl, .inl (SqL.of upd_same), .inl ⟨j, rfl, by omega, _, rfl, iteT ?_⟩⟩
      have s1 := Same.new nl (o := .lst us)
      refine ⟨_, rfl, p, dx, _, rfl, s1 _ _ hp, rfl, p, zs, lo, hi, _, es, rfl, M.up s1, fun l2 us2 nl2 hA2 => ?_⟩
      have s2 := Same.new nl2 (o := .lst us2)
      have ul2 := dp_len hA2
      rw [List.length_map] at ul2
      have hu : us2[j]? = some us2[j] := List.getElem?_eq_getElem (by omega)
      obtain ⟨d, hd1, hd2⟩ := dpGet hA2 hu
      rw [List.getElem?_map, List.getElem?_eq_getElem hj] at hd1
      cases hd1
      exact ⟨_, rfl, _, _, _, _, rfl, rfl, SqL.of upd_same, at_of (j := j) rfl hu, k _ _ (s1.trans s2) (WiV.of (dpSame s2 hd2))⟩
    · cases hkd
      refine ⟨_, rfl, _, _, .str _, .str _, sh, by decide +kernel, _, rfl, ?_⟩
      rw [show PyData.eqv (.str "order") (.str "wish") = false by decide +kernel]
      refine iteF ⟨_, rfl, _, _, .str _, .str _, sh, by decide +kernel, _, rfl, ?_⟩
      rw [show PyData.eqv (.str "order") (.str "order") = true by decide +kernel]
      obtain ⟨a, xs, rfl, hq, hP⟩ := id hO
      have xl := hP.length
      refine iteT ⟨_, rfl, _, rfl, _, a, xs, rfl, hq, .inl ⟨j, rfl, by omega, _, rfl, iteT ?_⟩⟩
      have hx : xs[j]? = some xs[j] := List.getElem?_eq_getElem (by omega)
      obtain ⟨q, hq1, b, e, hb⟩ := paired_at hP hx
      rw [List.getElem?_eq_getElem hj] at hq1
      cases hq1
      refine ⟨_, rfl, _, rfl, lt_of hq (at_of (j := j) rfl (hx.trans (congrArg some e))) ⟨b, _, rfl, hb, k⟩⟩
    · refine ⟨_, rfl, _, _, hkd, .str _, sh, by decide +kernel, _, rfl, ?_⟩
      cases e1 : PyData.eqv dk (.str "wish") with
      | false =>
        refine iteF ⟨_, rfl, _, _, hkd, .str _, sh, by decide +kernel, _, rfl, ?_⟩
        cases e2 : PyData.eqv dk (.str "order") with
        | false => exact iteF (k _ (Same.refl _))
        | true =>
          obtain ⟨a, xs, rfl, hq, hP⟩ := id hO
          exact iteT ⟨_, rfl, _, rfl, _, a, xs, rfl, hq, .inr ⟨by rw [hP.length]; exact no.2 e2, _, rfl, iteF (k _ (Same.refl _))⟩⟩
      | true =>
        refine iteT ⟨_, rfl, _, rfl, p, dx, _, rfl, hp, rfl, p, zs, lo, hi, _, es, rfl, M, fun l us nl hA => ?_⟩
        have ul := dp_len hA
        rw [List.length_map] at ul
        have s1 := Same.new nl (o := .lst us)
        refine ⟨_, l, us, rfl, .inl (SqL.of upd_same), .inr ⟨by rw [ul]; exact (no.1 e1).up s1, _, rfl, iteF ?_⟩⟩
        refine ⟨_, rfl, _, _, dpSame s1 hkd, .str _, sh, by decide +kernel, _, rfl, ?_⟩
        cases e2 : PyData.eqv dk (.str "order") with
        | false => exact iteF (k _ s1)
        | true =>
          obtain ⟨a, xs, rfl, hq, hP⟩ := id (hO.up s1)
          exact iteT ⟨_, rfl, _, rfl, _, a, xs, rfl, hq, .inr ⟨by rw [hP.length]; exact (no.2 e2).up s1, _, rfl, iteF (k _ s1)⟩⟩
/-- whether a moment is the clock or of one of these dishes -/
def onB (ys : List Str) (o : Mo) : Bool := decide (dishM o = "clock") || decide (dishM o ∈ ys)
theorem onB_of {ys : List Str} {o : Mo} (h : o.on ys) : onB ys o = true := by
  unfold onB
  cases o with
  | clock => rfl
  | edge b n => rw [show decide (dishM (.edge b n) ∈ ys) = true from decide_eq_true h, Bool.or_true]
def spBetween (K : PySem.W.Frag) : Sp := fun vs H Q _ => ∃ (v : V) (dh : Addr) (ys : List Str) (hk : Str → Str) (w : Mo × Mo × Int), vs = [v, .ref dh] ∧ WiV K H v w ∧ (∀ b n, w.1 = .edge b n → PyData.strOk n = true) ∧ (∀ b n, w.2.1 = .edge b n → PyData.strOk n = true) ∧ H dh = some (.dK (kvR (rowsF ys hk))) ∧
  ∀ H', Same H H' → Q (.bl (onB ys w.1 && onB ys w.2.1)) H'
theorem ok_between (T : Txt K mg A) : FnOk P w K mg base CX0 2 A.a_is_between A.d_is_between P_is_between (spBetween K) := by
  have G_dish_of : FnOk P w K mg base CX0 1 A.a_dish_of A.d_dish_of P_dish_of (spDishOf2 K) := ok_dishof2 T
  refine T.f_is_between.ok sc_is_between (fun vs H Q E h => ?_) (fun cdv A' outer s H vs Q E hr h => ?_)
  · obtain ⟨v, dh, ys, hk, w, rfl, _⟩ := h
    rfl
  · obtain ⟨v, dh, ys, hk, w, rfl, ⟨p, x, y, rfl, hq, hx, hy⟩, ok1, ok2, hh, k⟩ := h
    refine ⟨_, (pss_one (ps_ret (pe_callB (cr_all rfl) (by rfl) T.all (by decide +kernel) (pa_cons (pe_lc (own := [("dish", 2)]) (g := gName 2) (by rfl) sc_is_between.nd (pi_tup (pe_tup (pa_cons (pe_call G_dish_of (hr.mono (by omega)) (by rfl) T.g_dish_of T.f_dish_of.kp T.b_dish_of .nil pass0 (pa_cons (pe_ix (Own.ixTupOf (K := K) rfl) (pv 0) pe_int (fun _ _ => rfl)) pa_nil)) (pa_cons (pe_call G_dish_of (hr.mono (by omega)) (by rfl) T.g_dish_of T.f_dish_of.kp T.b_dish_of .nil pass0 (pa_cons (pe_ix (Own.ixTupOf (K := K) rfl) (pv 0) pe_int (fun _ _ => rfl)) pa_nil)) pa_nil)))) (blkOk_by (N := N_is_between) (sc := defScope s_is_between) (by decide +kernel)) (fun _ _ _ _ _ => pg_name (i := 2) sc_is_between.nd rfl (Or.inl rfl)) (fun _ _ _ _ _ => pts_nil) (fun _ _ _ _ _ => (pe_or (pe_cmpR op_eq (pv 2) (pe_glob (v := .str "clock") (by rfl) T.g_CLOCK.choose_spec ⟨_, rfl⟩) (nomark _)) (pe_one (pe_cmp (pc_din (hu_of hr) (pv 2) (pv 1)) rfl))))) pa_nil)))), ?_⟩
    refine ⟨_, rfl, _, _, _, _, rfl, rfl, hq, rfl, x, w.1, rfl, hx, ok1, ?_⟩
    refine ⟨_, rfl, _, _, _, _, rfl, rfl, hq, rfl, y, w.2.1, rfl, hy, ok2, ?_⟩
    refine ⟨by show 2 ≤ sizeLine; decide, fun t nt => ?_⟩
    have s1 := Same.new nt (o := .tup [.str (dishM w.1), .str (dishM w.2.1)])
    have ht := upd_same (H := H) (a := t) (o := .tup [.str (dishM w.1), .str (dishM w.2.1)])
    refine cast_heap (b := upd H t (.tup [.str (dishM w.1), .str (dishM w.2.1)])) rfl ?_
    generalize upd H t (.tup [.str (dishM w.1), .str (dishM w.2.1)]) = H1 at s1 ht ⊢
    have hh := s1 _ _ hh
    refine ⟨t, rfl, ⟨_, SqT.of ht⟩, fun D nD => lc_it (walk_tup (K := K) (a := t) (xs := [V.str (dishM w.1), .str (dishM w.2.1)])) (fun m H' => Same H1 H' ∧ H' D = some (.lst ((([onB ys w.1, onB ys w.2.1]).take m).map V.bl))) ⟨Same.new nD, upd_same⟩ (fun m H' _ z => SqT.of (z.1 _ _ ht)) ?_ (fun H2 z => ?_)⟩
    · rintro m z H' H'' hm ⟨s2, hD⟩ ⟨rfl, hz⟩
      obtain ⟨d, b, rfl, hb, eb⟩ : ∃ (d : Str) (b : Bool), z = .str d ∧ [onB ys w.1, onB ys w.2.1][m]? = some b ∧ b = (decide (d = "clock") || decide (d ∈ ys)) := by
        rcases m with _ | _ | m
        · cases hz; exact ⟨_, _, rfl, rfl, rfl⟩
        · cases hz; exact ⟨_, _, rfl, rfl, rfl⟩
        · exact absurd hm (by simp)
      have fin : ∃ xs, H'' D = some (.lst xs) ∧ xs.length < sizeLine ∧ (Same H1 (upd H'' D (.lst (xs ++ [.bl b]))) ∧ upd H'' D (.lst (xs ++ [.bl b])) D = some (.lst ((([onB ys w.1, onB ys w.2.1]).take (m + 1)).map V.bl))) := by
        refine ⟨_, hD, ?_, fun b u e => by rw [upd_ne (ne_of_none e nD)]; exact s2 _ _ e, ?_⟩
        · rw [List.length_map, List.length_take]; exact Nat.lt_of_le_of_lt (show min m 2 ≤ 2 by omega) (by decide)
        · rw [upd_same, List.take_succ, hb, List.map_append]; rfl
      by_cases c1 : d = "clock"
      · rw [eb, c1] at fin
        subst c1
        exact ⟨rfl, _, rfl, rfl, _, rfl, iteT fin⟩
      · rw [eb, decide_eq_false c1, Bool.false_or] at fin
        refine ⟨rfl, _, rfl, rfl, _, rfl, ?_⟩
        rw [show decide (V.str d = V.str "clock") = false from decide_eq_false fun e => c1 (V.str.inj e)]
        refine iteF ⟨_, rfl, _, rfl, dh, _, rfl, .inl ⟨_, .inr d, .inl (s2 _ _ hh), rfl, rfl⟩, ?_⟩
        rw [show (valV (kvR (rowsF ys hk)) (.inr d)).isSome = decide (d ∈ ys) by rw [kvR_F]; exact key_some (kvF_keys _ _) d]
        exact fin
    · obtain ⟨s2, hD⟩ := z
      refine ⟨D, _, rfl, SqL.of hD, ?_⟩
      have := k H2 (s1.trans s2)
      simpa using this
def spFoundRow (K : PySem.W.Frag) (CM : Addr) : Sp := fun vs H Q _ => ∃ (x : V) (dh p : Addr) (o : V) (ys : List Str) (hk : Str → Str) (W : Str → List Str) (lo hi : Str → Int) (ws : List (Mo × Mo × Int)) (es : List PyData) (ps : List (Str × Str)), vs = [x, .ref dh, .ref p, o] ∧ H dh = some (.dK (kvR (rowsF ys hk))) ∧ MlAt K CM H p ys lo hi (ws.map wiD) es ∧ OrdV K H o ps ∧
  (∀ w ∈ ws, w.1.on ys ∧ w.2.1.on ys) ∧ OrdOk ys ps ∧ ys.Nodup ∧ ys.length < 64 ∧ (∀ n ∈ ys, PyData.strOk n = true) ∧ WaysOk ys hk W ∧
  ((∃ wd : Wd, RowV K H x wd ∧ wd.on ys ws ps ∧ ∀ t H', Same H H' → H t = none → H' t = some (.tup (tupR (wd.row hk W lo hi ws ps))) → Q (.ref t) H') ∨ (NoRowV K H ys ws.length ps.length x ∧ ∀ H', Same H H' → Q .non H'))
theorem ok_foundrow (T : Txt K mg A) : FnOk P w K mg base CX0 6 A.a_found_row A.d_found_row P_found_row (spFoundRow K A.a_Meal) := by
  have G_is_list : FnOk P w K mg base CX0 1 A.a_is_list A.d_is_list P_is_list (spIsListX K) := ok_islistX T
  have G_is_dish : FnOk P w K mg base CX0 1 A.a_is_dish A.d_is_dish P_is_dish (spIsDish K) := ok_isdish T
  have G_found_wish : FnOk P w K mg base CX0 3 A.a_found_wish A.d_found_wish P_found_wish (spFoundWish K A.a_Meal) := ok_foundwish T
  have G_is_between : FnOk P w K mg base CX0 2 A.a_is_between A.d_is_between P_is_between (spBetween K) := ok_between T
  have G_wish_as_row : FnOk P w K mg base CX0 5 A.a_wish_as_row A.d_wish_as_row P_wish_as_row (spWishRow K) := ok_wishrow T
  have G_Meal_dishes : FnOk P w K mg base CX0 1 A.a_Meal_dishes A.d_Meal_dishes P_Meal_dishes (spMDishes K A.a_Meal) := ok_mdishes T
  refine T.f_found_row.ok sc_found_row (fun vs H Q E h => ?_) (fun cdv A' outer s H vs Q E hr h => ?_)
  · obtain ⟨x, dh, p, o, ys, hk, W, lo, hi, ws, es, ps, rfl, _⟩ := h
    rfl
  · obtain ⟨x, dh, p, o, ys, hk, W, lo, hi, ws, es, ps, rfl, hh, M, hO, hon, hOk, nd, hl, ok, hW, h⟩ := h
    obtain ⟨dx, qb, qw, qp, kvs, us, uq, hp, _⟩ := id M.ex
    have hkey := fun d => (show (valV (kvR (rowsF ys hk)) (.inr d)).isSome = decide (d ∈ ys) by rw [kvR_F]; exact key_some (kvF_keys _ _) d)
    refine ⟨_, (pss_cons (ps_if (PW.pt (pw_or (pt_not (pt_val (pe_call G_is_list (hr.mono (by omega)) (by rfl) T.g_is_list T.f_is_list.kp T.b_is_list .nil pass0 (pa_cons (pv 0) pa_nil)))) (pw_or1 (pt_cmpR op_ne (pe_callB call_len_seq (by rfl) T.len PySem.boot_len (pa_cons (pv 0) pa_nil)) pe_int (nomark _)))))
 (pss_one (ps_ret pe_non))
 pss_nil)
 (pss_cons (ps_asg (pv 0) (Own.pg_lt (by rfl) (pgs_cons (pg_name (i := 4) sc_found_row.nd rfl (Or.inl rfl)) (pgs_cons (pg_name (i := 5) sc_found_row.nd rfl (Or.inl rfl)) pgs_nil))))
 (pss_cons (ps_if (pt_cmpR (op_eqD hr.units) (pv 4) pe_str (nomark _))
 (pss_one (ps_ret (pe_ifExp (pt_val (pe_call G_is_dish (hr.mono (by omega)) (by rfl) T.g_is_dish T.f_is_dish.kp T.b_is_dish .nil pass0 (pa_cons (pv 5) (pa_cons (pv 1) pa_nil)))) (pe_tup (pa_cons (pv 5) (pa_cons (pe_dget (hu_of hr) (pv 1) (pv 5) (fun _ _ => rfl)) (pa_cons pe_int pa_nil)))) pe_non)))
 pss_nil)
 (pss_cons (ps_set (i := 6) sc_found_row.nd rfl (Or.inl rfl) (pe_call G_found_wish (hr.mono (by omega)) (by rfl) T.g_found_wish T.f_found_wish.kp T.b_found_wish .nil pass0 (pa_cons (pv 4) (pa_cons (pv 5) (pa_cons (pv 2) (pa_cons (pv 3) pa_nil))))))
 (pss_cons (ps_if (PW.pt (pw_or (pt_cmpR op_isN (pv 6) pe_non (nomark _)) (pw_or1 (pt_not (pt_val (pe_call G_is_between (hr.mono (by omega)) (by rfl) T.g_is_between T.f_is_between.kp T.b_is_between .nil pass0 (pa_cons (pv 6) (pa_cons (pv 1) pa_nil))))))))
 (pss_one (ps_ret pe_non))
 pss_nil)
 (pss_one (ps_ret (pe_call G_wish_as_row (hr.mono (by omega)) (by rfl) T.g_wish_as_row T.f_wish_as_row.kp T.b_wish_as_row .nil pass0 (pa_cons (pv 6) (pa_cons (pv 1) (pa_cons (pe_meth0 (pv 2) T.cl_M T.m_dishes G_Meal_dishes (hr.mono (by omega)) T.b_Meal_dishes .nil pass0) pa_nil))))))))))), ?_⟩
    rcases h with ⟨wd, ⟨a, rfl, hq⟩, won, k⟩ | ⟨h, k⟩
    · refine ⟨_, rfl, _, rfl, .inl ⟨a, _, rfl, hq, fun H1 s1 => ⟨_, rfl, iteF ?_⟩⟩⟩
      have hq := sxUp hq s1
      have hh := s1 _ _ hh
      have M := M.up s1
      have hO := hO.up s1
      have hp := s1 _ _ hp
      refine ⟨_, rfl, a, _, rfl, hq, rfl, _, rfl, iteF ?_⟩
      refine ⟨_, rfl, un2 hq ?_⟩
      dsimp only [List.set]
      by_cases cw : ∃ n, wd = .wait n
      · obtain ⟨n, rfl⟩ := cw
        have won : n ∈ ys := won
        refine ⟨_, rfl, _, _, .str _, .str _, (by decide +kernel : SeqAt.shaped (PyData.str "wait") = true), by decide +kernel, _, rfl, ?_⟩
        rw [show PyData.eqv (.str (Wd.wait n).nm) (.str "wait") = true from (by decide +kernel : PyData.eqv (.str "wait") (.str "wait") = true)]
        refine iteT ⟨_, rfl, _, rfl, _, dh, _, rfl, .inl hh, .inl ⟨n, rfl, ?_⟩⟩
        rw [hkey, decide_eq_true won]
        refine ⟨_, rfl, iteT ⟨_, rfl, _, rfl, _, rfl, dh, .str (hk n), rfl, .inl ⟨_, .inr n, .inl hh, rfl, by rw [kvR_F]; exact (kvF_val (f := fun n => V.str (hk n)) nd won).symm⟩, by show 3 ≤ sizeLine; decide, fun t nt => ?_⟩⟩
        exact k t _ (s1.trans (Same.new nt)) (s1.free nt) upd_same
      · obtain ⟨wi, e, o1, o2, sh, ne, fw⟩ : ∃ wi : Mo × Mo × Int, wd.row hk W lo hi ws ps = rowW W lo hi wi ∧ wi.1.on ys ∧ wi.2.1.on ys ∧ SeqAt.shaped (.str wd.nm) = true ∧ PyData.eqv (.str wd.nm) (.str "wait") = false ∧ ∀ Q' : VK, (∀ v H', Same H1 H' → WiV K H' v wi → Q' v H') →
            ((∃ (j : Nat) (hj : j < ws.length), V.str wd.nm = .str "wish" ∧ wd.val = .int (j : Nat) ∧ ∀ v H', Same H1 H' → WiV K H' v ws[j] → Q' v H') ∨ (∃ (j : Nat) (hj : j < ps.length), V.str wd.nm = .str "order" ∧ wd.val = .int (j : Nat) ∧ ∀ v H', Same H1 H' → WiV K H' v (ordW ps[j]) → Q' v H') ∨ (NoWhich K H1 ws.length ps.length (.str wd.nm) wd.val ∧ ∀ H', Same H1 H' → Q' .non H')) := by
          cases wd with
          | wait n => exact absurd ⟨n, rfl⟩ cw
          | wish j =>
            have hj : j < ws.length := won
            obtain ⟨o1, o2⟩ := hon _ (List.getElem_mem hj)
            refine ⟨ws[j], ?_, o1, o2, (by decide +kernel : SeqAt.shaped (PyData.str "wish") = true), (by decide +kernel : PyData.eqv (.str "wish") (.str "wait") = false), fun Q' hQ => .inl ⟨j, hj, rfl, rfl, hQ⟩⟩
            show rowW W lo hi (ws.getD j _) = _
            rw [getD_of hj]
          | order j =>
            have hj : j < ps.length := won
            obtain ⟨m1, m2, _⟩ := hOk _ (List.getElem_mem hj)
            refine ⟨ordW ps[j], ?_, m2, m1, (by decide +kernel : SeqAt.shaped (PyData.str "order") = true), (by decide +kernel : PyData.eqv (.str "order") (.str "wait") = false), fun Q' hQ => .inr (.inl ⟨j, hj, rfl, rfl, hQ⟩)⟩
            show rowW W lo hi (ordW (ps.getD j _)) = _
            rw [getD_of hj]
        refine ⟨_, rfl, _, _, .str _, .str _, sh, by decide +kernel, _, rfl, ?_⟩
        rw [ne]
        refine iteF ⟨_, rfl, _, rfl, _, rfl, _, rfl, _, _, _, p, o, ys, lo, hi, ws, es, ps, rfl, .str _, sh, M, hO, fw _ fun v H2 s2 hv => ?_⟩
        have hh := s2 _ _ hh
        obtain ⟨pv, x1, x2, ev, _⟩ := id hv
        have vn : decide (v = V.non) = false := decide_eq_false fun z => by rw [ev] at z; cases z
        refine ⟨_, rfl, rfl, _, rfl, ?_⟩
        rw [vn]
        refine iteF ⟨_, rfl, _, rfl, v, dh, ys, hk, wi, rfl, hv, MoV.oks o1 ok, MoV.oks o2 ok, hh, fun H3 s3 => ?_⟩
        rw [onB_of o1, onB_of o2]
        refine ⟨_, rfl, iteF ?_⟩
        have s23 := s3
        have s3 := s2.trans s3
        refine ⟨_, rfl, _, rfl, _, rfl, p, dx, _, rfl, s3 _ _ hp, rfl, p, ys, lo, hi, _, es, rfl, M.up s3, fun l H4 kv nl s4 hl4 hP4 => ?_⟩
        have s4' := s3.trans s4
        refine ⟨v, dh, l, ys, hk, W, lo, hi, kv, wi, rfl, hv.up (s23.trans s4), o1, o2, (s23.trans s4) _ _ hh, hl4, hP4, nd, hl, ok, hW, fun t H5 s5 nt ht => ?_⟩
        exact k t _ ((s1.trans s4').trans s5) ((s1.trans s4').free nt) (by rw [e]; exact ht)
    · have fin0 : ∀ H', Same H H' → Q .non H' := k
      rcases h with ⟨t, ht, e1, e2⟩ | ⟨a, xs, rfl, hq, ne⟩ | ⟨a, kv, wv, dk, rfl, hq, hd, sh, h⟩
      · exact ⟨_, rfl, _, rfl, .inr ⟨t, ht, e1, e2, fun H1 s1 => ⟨_, rfl, iteT (k _ s1)⟩⟩⟩
      · refine ⟨_, rfl, _, rfl, .inl ⟨a, _, rfl, hq, fun H1 s1 => ⟨_, rfl, iteF ?_⟩⟩⟩
        refine ⟨_, rfl, a, _, rfl, sxUp hq s1, rfl, _, rfl, ?_⟩
        rw [show (!decide (V.int (xs.length : Nat) = V.int 2)) = true by simp; omega]
        exact iteT (k _ s1)
      · refine ⟨_, rfl, _, rfl, .inl ⟨a, _, rfl, hq, fun H1 s1 => ⟨_, rfl, iteF ?_⟩⟩⟩
        have hq := sxUp hq s1
        refine ⟨_, rfl, a, _, rfl, hq, rfl, _, rfl, iteF ?_⟩
        refine ⟨_, rfl, un2 hq ?_⟩
        dsimp only [List.set]
        refine ⟨_, rfl, _, _, dpSame s1 hd, .str _, sh, by decide +kernel, _, rfl, ?_⟩
        rcases h with ⟨ew, h⟩ | ⟨ew, h⟩
        · rw [ew]
          refine iteT ⟨_, rfl, _, rfl, _, dh, _, rfl, .inl (s1 _ _ hh), ?_⟩
          rcases h with ⟨s, rfl, hs⟩ | ⟨t, ht, e⟩
          · refine .inl ⟨s, rfl, ?_⟩
            rw [hkey, decide_eq_false hs]
            exact ⟨_, rfl, iteF (k _ s1)⟩
          · exact .inr ⟨t, tyXSame s1 ht, e, _, rfl, iteF (k _ s1)⟩
        · rw [ew]
          refine iteF ⟨_, rfl, _, rfl, _, rfl, _, rfl, _, _, _, p, o, ys, lo, hi, ws, es, ps, rfl, dpSame s1 hd, sh, M.up s1, hO.up s1, .inr (.inr ⟨h.up s1, fun H2 s2 => ?_⟩)⟩
          exact ⟨_, rfl, rfl, _, rfl, iteT (k _ (s1.trans s2))⟩
end
end K5
set_option Elab.async false
set_option linter.all false
set_option maxRecDepth 100000
set_option maxHeartbeats 4000000
namespace K5
open PySem L2
local macro_rules | `(tactic| walk_at "rd1") => `(tactic| first
  | refine ⟨_, _, rfl, rfl, ?_⟩
  | refine ⟨_, _, _, _, rfl, rfl, SqL.of (by assumption), rfl, ?_⟩
  | refine ⟨_, _, _, _, rfl, rfl, (by assumption), rfl, ?_⟩
  | refine .inl ⟨_, rfl, ?_⟩
  | refine ⟨_, rfl, ?_⟩
  | refine ⟨(by unfold CMul; omega), ?_⟩
  | refine ⟨(by unfold CPow; omega), ?_⟩
  | refine ⟨(by (try dsimp only); omega), ?_⟩
  | refine ⟨(by unfold CDiv; omega), ?_⟩
  | fail "rd1")
local macro_rules | `(tactic| walk_at "rd") => `(tactic| repeat' (walk_at "rd1"))
open Own
section
variable {P : Program} {w : World} {K : PySem.W.Frag} {mg : Str → Option Value} {base : Heap} {A : Ad}
def spNRI (K : PySem.W.Frag) (n : Nat) (C : Addr) : Sp := fun vs H Q _ => ∃ (a : Addr) (x : V) (G : Hp), vs = [.ref a, x] ∧ H a = some (exo a C none) ∧ G a = none ∧ Cpre K n G H x ∧
  ∀ y Hc dx, Same H Hc → Hc dx = none → dx ≠ a → (∀ H', (∀ b u, Hc b = some u → b ≠ a → H' b = some u) → SD K n H' x y) → Q .non (upd (upd Hc dx (exd dx [("row", y)])) a (exo a C (some dx)))
theorem ok_nri (T : Txt K mg A) (n : Nat) : FnOk P w K mg base CX0 (n + 1) A.a_NoRow___init__ A.d_NoRow___init__ P_NoRow___init__ (spNRI K n A.a_NoRow) := by
  have G_copied : FnOk P w K mg base CX0 n A.a_copied A.d_copied P_copied (spCopy K n) := ok_copied T n
  refine T.f_NoRow___init__.ok sc_NoRow___init__ (fun vs H Q E h => ?_) (fun cdv A' outer s H vs Q E hr h => ?_)
  · obtain ⟨a, x, G, rfl, _⟩ := h
    rfl
  · obtain ⟨a, x, G, rfl, ha, ga, ⟨sG, hx⟩, k⟩ := h
    refine ⟨_, (pss_one (ps_ost (pv 0) (pe_call G_copied (hr.mono (by omega)) (by rfl) T.g_copied T.f_copied.kp T.b_copied .nil pass0 (pa_cons (pv 1) pa_nil)))), ?_⟩
    rcases hx with ⟨d, hx, hd, hw⟩ | ⟨a2, rfl, ha2, hn⟩
    · refine ⟨_, rfl, x, rfl, .inl ⟨d, G, sG, hx, hd, hw, fun y G' Hc s1 mo sG' hy => ⟨_, rfl, a, A.a_NoRow, rfl, T.xNr, T.nNr, .inl ⟨s1 _ _ ha, fun dx h1 h2 => k y Hc dx s1 h1 h2 fun H' hh => .inl ⟨d, ?_, ?_, hd, hw⟩⟩⟩⟩⟩
      · exact dpSame (fun b u e => hh b u (s1 _ _ (sG _ _ e)) fun z => by rw [z, ga] at e; cases e) hx
      · refine dpSame (fun b u e => hh b u (sG' _ _ e) fun z => ?_) hy
        subst z
        rcases mo.new b (by rw [e]; exact fun z => nomatch z) with z | z
        · exact z ga
        · rw [ha] at z; cases z
    · refine ⟨_, rfl, _, rfl, .inr ⟨a2, rfl, ha2, hn, fun b Hc s1 hb0 hb => ⟨_, rfl, a, A.a_NoRow, rfl, T.xNr, T.nNr, .inl ⟨s1 _ _ ha, fun dx h1 h2 => k _ Hc dx s1 h1 h2 fun H' hh => .inr ⟨a2, b, rfl, rfl, ?_, ?_⟩⟩⟩⟩⟩
      · exact hh _ _ (s1 _ _ ha2) fun z => by rw [z, ha] at ha2; exact exo_dK (Option.some.inj ha2)
      · exact hh _ _ hb fun z => by rw [z, ha] at hb0; cases hb0
/-- a meal and a hanging of the same dishes, orders -/
structure MH (K : PySem.W.Frag) (CM CH : Addr) (H : Hp) (p b : Addr) (o : V) (ys : List Str) (hk : Str → Str) (W : Str → List Str) (lo hi : Str → Int) (ws : List (Mo × Mo × Int)) (es : List PyData) (ps : List (Str × Str)) : Prop where
  m : MlAt K CM H p ys lo hi (ws.map wiD) es
  h : HgF CH H b ys hk
  o : OrdV K H o ps
  on : ∀ w ∈ ws, w.1.on ys ∧ w.2.1.on ys
  ok : OrdOk ys ps
  O : ∃ rk, ROk rk (rowsF ys hk)
  srt : PyProof.Rows.sortedS ys = true
  W : WaysOk ys hk W
theorem MH.up {CM CH : Addr} {H H' : Hp} {p b : Addr} {o : V} {ys : List Str} {hk : Str → Str} {W : Str → List Str} {lo hi : Str → Int} {ws : List (Mo × Mo × Int)} {es : List PyData} {ps : List (Str × Str)} (h : MH K CM CH H p b o ys hk W lo hi ws es ps) (s : Same H H') : MH K CM CH H' p b o ys hk W lo hi ws es ps := by
  obtain ⟨dy, qh, h1, h2⟩ := hgF h.h
  exact ⟨h.m.up s, ⟨dy, qh, s _ _ h1, s _ _ h2⟩, h.o.up s, h.on, h.ok, h.O, h.srt, h.W⟩
theorem MH.nd {CM CH : Addr} {H : Hp} {p b : Addr} {o : V} {ys : List Str} {hk : Str → Str} {W : Str → List Str} {lo hi : Str → Int} {ws : List (Mo × Mo × Int)} {es : List PyData} {ps : List (Str × Str)} (h : MH K CM CH H p b o ys hk W lo hi ws es ps) : ys.Nodup := by
  obtain ⟨rk, hO⟩ := h.O
  have := hO.nd; rwa [ksR_F] at this
theorem MH.len {CM CH : Addr} {H : Hp} {p b : Addr} {o : V} {ys : List Str} {hk : Str → Str} {W : Str → List Str} {lo hi : Str → Int} {ws : List (Mo × Mo × Int)} {es : List PyData} {ps : List (Str × Str)} (h : MH K CM CH H p b o ys hk W lo hi ws es ps) : ys.length < 64 := by
  obtain ⟨rk, hO⟩ := h.O
  have := hO.len; rwa [← ksR_len, ksR_F] at this
theorem MH.sok {CM CH : Addr} {H : Hp} {p b : Addr} {o : V} {ys : List Str} {hk : Str → Str} {W : Str → List Str} {lo hi : Str → Int} {ws : List (Mo × Mo × Int)} {es : List PyData} {ps : List (Str × Str)} (h : MH K CM CH H p b o ys hk W lo hi ws es ps) : ∀ n ∈ ys, PyData.strOk n = true := fun n m => by
  obtain ⟨rk, hO⟩ := h.O
  exact (hO.nm n (by rw [ksR_F]; exact m)).2
theorem hg_at {CH : Addr} {H : Hp} {b : Addr} {ys : List Str} {hk : Str → Str} (h : HgF CH H b ys hk) : ∃ q dy, H b = some (.ins CH dy [("hooks", .ref q)]) ∧ HgAt CH H b q (rowsF ys hk) := by
  obtain ⟨dy, qh, h1, h2⟩ := hgF h
  exact ⟨qh, dy, h1, ⟨dy, h1⟩, by rw [kvR_F]; exact h2⟩
def RaR (K : PySem.W.Frag) (n : Nat) (CN : Addr) (H : Hp) (x : V) (E : XK) : Prop := ∀ y dd H', Same H H' → H' dd = some (.xd [("row", y)]) → SD K n H' x y → E (.ref CN) (some dd) H'
def CopX (K : PySem.W.Frag) (n : Nat) (H : Hp) (x : V) : Prop := (∃ d, Dp K H x d ∧ d.depth < n ∧ wid d = true) ∨ ∃ a, x = .ref a ∧ H a = some (.dK []) ∧ 0 < n
theorem CopX.up {n : Nat} {H H' : Hp} {x : V} (h : CopX K n H x) (s : Same H H') : CopX K n H' x := h.imp (fun ⟨d, a, b⟩ => ⟨d, dpSame s a, b⟩) fun ⟨a, e, b, c⟩ => ⟨a, e, s _ _ b, c⟩
def spRowOfX (K : PySem.W.Frag) (n : Nat) (CM CH CN : Addr) : Sp := fun vs H _ E => ∃ (p b : Addr) (o x : V) (ys : List Str) (hk : Str → Str) (W : Str → List Str) (lo hi : Str → Int) (ws : List (Mo × Mo × Int)) (es : List PyData) (ps : List (Str × Str)), vs = [.ref p, .ref b, o, x] ∧ MH K CM CH H p b o ys hk W lo hi ws es ps ∧ NoRowV K H ys ws.length ps.length x ∧ CopX K n H x ∧ RaR K n CN H x E
theorem ok_rowofX (T : Txt K mg A) (n : Nat) (h3 : n ≤ 3) : FnOk P w K mg base (L2.CX P w) 7 A.a_row_of A.d_row_of P_row_of (spRowOfX K n A.a_Meal A.a_Hanging A.a_NoRow) := by
  have G_check_same : FnOk P w K mg base CX0 6 A.a_check_same A.d_check_same P_check_same (spSameHD K A.a_Meal A.a_Hanging) := ok_chksameH T
  have G_check_orders : FnOk P w K mg base CX0 3 A.a_check_orders A.d_check_orders P_check_orders (spChkOrd K) := ok_chkord T
  have G_found_row : FnOk P w K mg base CX0 6 A.a_found_row A.d_found_row P_found_row (spFoundRow K A.a_Meal) := ok_foundrow T
  have G_Meal_dishes : FnOk P w K mg base CX0 1 A.a_Meal_dishes A.d_Meal_dishes P_Meal_dishes (spMDishes K A.a_Meal) := ok_mdishes T
  have G_Hanging_rows : FnOk P w K mg base CX0 1 A.a_Hanging_rows A.d_Hanging_rows P_Hanging_rows (spHRows A.a_Hanging) := ok_hrows T
  have G_NoRow___init__ : FnOk P w K mg base CX0 (n + 1) A.a_NoRow___init__ A.d_NoRow___init__ P_NoRow___init__ (spNRI K n A.a_NoRow) := ok_nri T n
  refine T.f_row_of.okX sc_row_of (fun vs H Q E h => ?_) (fun cdv A' outer s H vs Q E hr h => ?_)
  · obtain ⟨p, b, o, x, ys, hk, W, lo, hi, ws, es, ps, rfl, _⟩ := h
    rfl
  · obtain ⟨p, b, o, x, ys, hk, W, lo, hi, ws, es, ps, rfl, B, hx, hc, k⟩ := h
    refine ⟨_, (pss_cons (ps_expr (pe_call G_check_same (hr.mono (by omega)) (by rfl) T.g_check_same T.f_check_same.kp T.b_check_same .nil pass0 (pa_cons (pv 0) (pa_cons (pv 1) pa_nil))))
 (pss_cons (ps_expr (pe_call G_check_orders (hr.mono (by omega)) (by rfl) T.g_check_orders T.f_check_orders.kp T.b_check_orders .nil pass0 (pa_cons (pv 2) (pa_cons (pe_meth0 (pv 0) T.cl_M T.m_dishes G_Meal_dishes (hr.mono (by omega)) T.b_Meal_dishes .nil pass0) pa_nil))))
 (pss_cons (ps_set (i := 4) sc_row_of.nd rfl (Or.inl rfl) (pe_call G_found_row (hr.mono (by omega)) (by rfl) T.g_found_row T.f_found_row.kp T.b_found_row .nil pass0 (pa_cons (pv 3) (pa_cons (pe_meth0 (pv 1) T.cl T.m_rows G_Hanging_rows (hr.mono (by omega)) T.b_Hanging_rows .nil pass0) (pa_cons (pv 0) (pa_cons (pv 2) pa_nil))))))
 (pss_cons (ps_if (pt_cmpR op_isN (pv 4) pe_non (nomark _))
 (pss_one (ps_raise rfl (takes_of rfl rfl rfl rfl) (pmk_oex T.xNr T.iNr T.tNr G_NoRow___init__ (hr.mono (by omega)) T.b_NoRow___init__ .nil pass0 (by rfl) T.g_NoRow (pa_cons (pv 3) pa_nil))))
 pss_nil)
 (PSs.nox (pss_one (ps_ret (pv 4)))))))), ?_⟩
    refine ⟨_, rfl, _, rfl, p, b, ys, ys, lo, hi, _, es, hk, rfl, B.m, B.h, B.len, B.sok, B.sok, rfl, fun H1 s1 => ?_⟩
    have B1 := B.up s1
    obtain ⟨dx, qb, qw, qp, kvs, us, uq, hp, _⟩ := id B1.m.ex
    refine ⟨_, rfl, _, rfl, p, dx, _, rfl, hp, rfl, p, ys, lo, hi, _, es, rfl, B1.m, fun l H2 kv nl s2 hl hP => ?_⟩
    have B2 := B1.up s2
    refine ⟨o, l, ps, kv, ys, rfl, B2.o, .inl hl, hP.keys, B.ok, fun H3 s3 => ?_⟩
    have B3 := B2.up s3
    have S3 := (s1.trans s2).trans s3
    clear hl hP nl hp
    obtain ⟨q, dy, hb, hg⟩ := hg_at B3.h
    refine ⟨_, rfl, _, rfl, b, dy, _, rfl, hb, rfl, b, q, _, rfl, hg, fun l2 nl2 => ?_⟩
    have s4 := Same.new nl2 (o := .dK (kvR (rowsF ys hk)))
    refine ⟨_, rfl, _, rfl, x, l2, p, o, ys, hk, W, lo, hi, ws, es, ps, rfl, upd_same, B3.m.up s4, B3.o.up s4, B.on, B.ok, B.nd, B.len, B.sok, B.W, .inr ⟨hx.up (S3.trans s4), fun H5 s5 => ?_⟩⟩
    have S5 := (S3.trans s4).trans s5
    refine ⟨_, rfl, rfl, _, rfl, iteT ⟨_, rfl, by show 1 ≤ 1000; decide, fun a na => ⟨a, _, H5, rfl, upd_same, na, exc_pre na (Same.refl _) (hc.up S5), fun y Hc dd s1 h1 h2 h3 => ⟨rfl, dd, _, exc_fin na s1 h1 h2 h3 (fun y dd H' s e sd => k y dd H' (S5.trans s) e sd) _ rfl⟩⟩⟩⟩
end
end K5
set_option Elab.async false
set_option linter.all false
set_option maxRecDepth 100000
set_option maxHeartbeats 4000000
namespace K5
open PySem L2
local macro_rules | `(tactic| walk_at "rd1") => `(tactic| first
  | refine ⟨_, _, rfl, rfl, ?_⟩
  | refine ⟨_, _, _, _, rfl, rfl, SqL.of (by assumption), rfl, ?_⟩
  | refine ⟨_, _, _, _, rfl, rfl, (by assumption), rfl, ?_⟩
  | refine .inl ⟨_, rfl, ?_⟩
  | refine ⟨_, rfl, ?_⟩
  | refine ⟨(by unfold CMul; omega), ?_⟩
  | refine ⟨(by unfold CPow; omega), ?_⟩
  | refine ⟨(by (try dsimp only); omega), ?_⟩
  | refine ⟨(by unfold CDiv; omega), ?_⟩
  | fail "rd1")
local macro_rules | `(tactic| walk_at "rd") => `(tactic| repeat' (walk_at "rd1"))
open Own
section
variable {P : Program} {w : World} {K : PySem.W.Frag} {mg : Str → Option Value} {base : Heap} {A : Ad}
def Wd.dat : Wd → PyData
  | .wait n => .str n
  | .wish k => .int (k : Nat)
  | .order k => .int (k : Nat)
def Wd.d (wd : Wd) : PyData := .tuple [.str wd.nm, wd.dat]
end
end K5
set_option Elab.async false
set_option linter.all false
set_option maxRecDepth 100000
set_option maxHeartbeats 4000000
namespace K5
open PySem L2
local macro_rules | `(tactic| walk_at "rd1") => `(tactic| first
  | refine ⟨_, _, rfl, rfl, ?_⟩
  | refine ⟨_, _, _, _, rfl, rfl, SqL.of (by assumption), rfl, ?_⟩
  | refine ⟨_, _, _, _, rfl, rfl, (by assumption), rfl, ?_⟩
  | refine .inl ⟨_, rfl, ?_⟩
  | refine ⟨_, rfl, ?_⟩
  | refine ⟨(by unfold CMul; omega), ?_⟩
  | refine ⟨(by unfold CPow; omega), ?_⟩
  | refine ⟨(by (try dsimp only); omega), ?_⟩
  | refine ⟨(by unfold CDiv; omega), ?_⟩
  | fail "rd1")
local macro_rules | `(tactic| walk_at "rd") => `(tactic| repeat' (walk_at "rd1"))
open Own
section
variable {P : Program} {w : World} {K : PySem.W.Frag} {mg : Str → Option Value} {base : Heap} {A : Ad}
/-- pairs of dishes in tuples -/
def PrL (K : PySem.W.Frag) (E : Hp) (pp : Addr) (ps : List (Str × Str)) : Prop := ∃ bs : List Addr, E pp = some (.lst (bs.map V.ref)) ∧ Paired (fun b (p : Str × Str) => SqT K E b [.str p.1, .str p.2]) bs ps
theorem PrL.up {E E' : Hp} {pp : Addr} {ps : List (Str × Str)} (h : PrL K E pp ps) (s : Same E E') : PrL K E' pp ps := by
  obtain ⟨bs, h1, h2⟩ := h
  exact ⟨bs, s _ _ h1, paired_imp (fun _ _ z => stUp z s) h2⟩
theorem paired_mapL {α β γ : Type} {R : β → γ → Prop} {f : α → β} : ∀ {xs : List α} {ys : List γ}, Paired (fun x y => R (f x) y) xs ys → Paired R (xs.map f) ys
  | _, _, .nil => .nil
  | _, _, .cons a b => .cons a (paired_mapL b)
theorem PrL.ord {E : Hp} {pp : Addr} {ps : List (Str × Str)} (h : PrL K E pp ps) : OrdV K E (.ref pp) ps := by
  obtain ⟨bs, h1, h2⟩ := h
  exact ⟨pp, bs.map V.ref, rfl, .inl (SqL.of h1), paired_mapL (paired_imp (fun b p z => ⟨b, rfl, .inr z⟩) h2)⟩
theorem PrL.snoc {H : Hp} {l t : Addr} {bs : List Addr} {ps : List (Str × Str)} {p : Str × Str} (h1 : H l = some (.lst (bs.map V.ref))) (h2 : Paired (fun b (p : Str × Str) => SqT K H b [.str p.1, .str p.2]) bs ps) (ht : SqT K H t [.str p.1, .str p.2]) : PrL K (upd H l (.lst (bs.map V.ref ++ [.ref t]))) l (ps ++ [p]) :=
  ⟨bs ++ [t], by rw [upd_same, List.map_append]; rfl, paired_snoc (paired_imp (fun _ _ z => tupSet h1 (noTup_lst _) z) h2) (tupSet h1 (noTup_lst _) ht)⟩
def WdL (K : PySem.W.Frag) (H : Hp) (l : Addr) (wds : List Wd) : Prop := ∃ bs : List Addr, H l = some (.lst (bs.map V.ref)) ∧ Paired (fun b (wd : Wd) => SqT K H b [.str wd.nm, wd.val]) bs wds
theorem WdL.up {H H' : Hp} {l : Addr} {wds : List Wd} (h : WdL K H l wds) (s : Same H H') : WdL K H' l wds := by
  obtain ⟨bs, h1, h2⟩ := h
  exact ⟨bs, s _ _ h1, paired_imp (fun _ _ z => stUp z s) h2⟩
theorem WdL.snoc {H : Hp} {l t : Addr} {bs : List Addr} {wds : List Wd} {wd : Wd} (h1 : H l = some (.lst (bs.map V.ref))) (h2 : Paired (fun b (wd : Wd) => SqT K H b [.str wd.nm, wd.val]) bs wds) (ht : SqT K H t [.str wd.nm, wd.val]) : WdL K (upd H l (.lst (bs.map V.ref ++ [.ref t]))) l (wds ++ [wd]) :=
  ⟨bs ++ [t], by rw [upd_same, List.map_append]; rfl, paired_snoc (paired_imp (fun _ _ z => tupSet h1 (noTup_lst _) z) h2) (tupSet h1 (noTup_lst _) ht)⟩
theorem paired_app {α β : Type} {R : α → β → Prop} : ∀ {xs xs2 : List α} {ys ys2 : List β}, Paired R xs ys → Paired R xs2 ys2 → Paired R (xs ++ xs2) (ys ++ ys2)
  | _, _, _, _, .nil, h => h
  | _, _, _, _, .cons a b, h => .cons a (paired_app b h)
/-- two lists put together -/
theorem WdL.cat {H : Hp} {l1 l2 : Addr} {w1 w2 : List Wd} (h1 : WdL K H l1 w1) (h2 : WdL K H l2 w2) (n1 : w1.length ≤ 1000) (n2 : w2.length ≤ 1000) {Q : VK} (k : ∀ p H', Same H H' → H p = none → WdL K H' p (w1 ++ w2) → Q (.ref p) H') : rCat (.ref l1) (.ref l2) H Q := by
  obtain ⟨b1, a1, p1⟩ := h1
  obtain ⟨b2, a2, p2⟩ := h2
  refine ⟨l1, l2, _, _, rfl, rfl, a1, a2, ?_, fun p np => k p _ (Same.new np) np ⟨b1 ++ b2, by rw [upd_same, List.map_append], paired_app (paired_imp (fun _ _ z => stUp z (Same.new np)) p1) (paired_imp (fun _ _ z => stUp z (Same.new np)) p2)⟩⟩
  rw [List.length_map, List.length_map, p1.length, p2.length]
  exact Nat.le_trans (show w1.length + w2.length ≤ 2000 by omega) (by decide)
theorem Wd.rows {hk : Str → Str} {W : Str → List Str} {lo hi : Str → Int} {ws : List (Mo × Mo × Int)} {ps : List (Str × Str)} {rs : List Str} :
    rs.map (fun n => (n, hk n, (0 : Int))) ++ (ws ++ ps.map ordW).map (rowW W lo hi) = ((rs.map Wd.wait ++ (List.range ws.length).map Wd.wish) ++ (List.range ps.length).map Wd.order).map (Wd.row hk W lo hi ws ps) := by
  rw [List.map_append, List.map_append, List.map_append, List.map_map, List.map_map, List.map_map, List.map_map, ← List.append_assoc]
  congr 1
  · congr 1
    refine List.ext_getElem (by simp) fun i h1 h2 => ?_
    rw [List.length_map] at h1
    simp only [List.getElem_map, List.getElem_range, Function.comp]
    show _ = rowW W lo hi (ws.getD i _)
    rw [getD_of h1]
  · refine List.ext_getElem (by simp) fun i h1 h2 => ?_
    rw [List.length_map] at h1
    simp only [List.getElem_map, List.getElem_range, Function.comp]
    show _ = rowW W lo hi (ordW (ps.getD i _))
    rw [getD_of h1]
theorem Wd.all_on {ws : List (Mo × Mo × Int)} {ps : List (Str × Str)} {rs ys : List Str} (h : ∀ n ∈ rs, n ∈ ys) : ∀ wd ∈ (rs.map Wd.wait ++ (List.range ws.length).map Wd.wish) ++ (List.range ps.length).map Wd.order, wd.on ys ws ps := fun wd m => by
  rcases List.mem_append.mp m with m | m
  · rcases List.mem_append.mp m with m | m
    · obtain ⟨n, q, rfl⟩ := List.mem_map.mp m
      exact h n q
    · obtain ⟨n, q, rfl⟩ := List.mem_map.mp m
      exact List.mem_range.mp q
  · obtain ⟨n, q, rfl⟩ := List.mem_map.mp m
    exact List.mem_range.mp q
theorem dp_appL {H : Hp} : ∀ {vs : List V} {ds : List PyData} {us : List V} {es : List PyData}, DpAll K H vs ds → DpAll K H us es → DpAll K H (vs ++ us) (ds ++ es)
  | _, _, _, _, .nil, h => h
  | _, _, _, _, .cons a b, h => .cons a (dp_appL b h)
end
end K5
set_option Elab.async false
set_option linter.all false
set_option maxRecDepth 100000
set_option maxHeartbeats 4000000
namespace K5
open PySem L2
local macro_rules | `(tactic| walk_at "rd1") => `(tactic| first
  | refine ⟨_, _, rfl, rfl, ?_⟩
  | refine ⟨_, _, _, _, rfl, rfl, SqL.of (by assumption), rfl, ?_⟩
  | refine ⟨_, _, _, _, rfl, rfl, (by assumption), rfl, ?_⟩
  | refine .inl ⟨_, rfl, ?_⟩
  | refine ⟨_, rfl, ?_⟩
  | refine ⟨(by unfold CMul; omega), ?_⟩
  | refine ⟨(by unfold CPow; omega), ?_⟩
  | refine ⟨(by (try dsimp only); omega), ?_⟩
  | refine ⟨(by unfold CDiv; omega), ?_⟩
  | fail "rd1")
local macro_rules | `(tactic| walk_at "rd") => `(tactic| repeat' (walk_at "rd1"))
open Own
section
variable {P : Program} {w : World} {K : PySem.W.Frag} {mg : Str → Option Value} {base : Heap} {A : Ad}
theorem tyXNt {H : Hp} {x : V} {t : Value} (h : TyX K H x t) : TyX K (nt H) x t := by
  cases h with
  | base h =>
    cases h with
    | non => exact .base .non
    | bl x => exact .base (.bl x)
    | int i => exact .base (.int i)
    | str x => exact .base (.str x)
    | flt x => exact .base (.flt x)
    | lst e => exact .base (.lst (nt_of e fun _ z => nomatch z))
    | frz e => exact .base (.frz (nt_of e fun _ z => nomatch z))
    | tup e => exact .base (.tup (nt_of e fun _ z => nomatch z))
    | dK e => exact .base (.dK (nt_of e fun _ z => nomatch z))
    | dT e => exact .base (.dT (nt_of e fun _ z => nomatch z))
    | ins e c a n k m => exact .base (.ins (nt_of e fun _ z => nomatch z) c a n k m)
  | byt b => exact .byt b
  | set e => exact .set (nt_of e fun _ z => nomatch z)
  | kList e c => exact .kList e c
  | kTuple e c => exact .kTuple e c
  | kDict e c => exact .kDict e c
  | fTuple e => exact .fTuple (nt_of e fun _ z => nomatch z)
  | fDict e => exact .fDict (nt_of e fun _ z => nomatch z)
theorem sxNt {H : Hp} {a : Addr} {xs : List V} (h : SqX K H a xs) : SqX K (nt H) a xs := h.imp sqlNt sqtNt
theorem NoIx.nt {H : Hp} {n : Nat} {x : V} (h : NoIx K H n x) : NoIx K (nt H) n x := h.imp id fun ⟨t, a, b⟩ => ⟨t, tyXNt a, b⟩
theorem NoRowV.nt {H : Hp} {ys : List Str} {nw no : Nat} {x : V} (h : NoRowV K H ys nw no x) : NoRowV K (nt H) ys nw no x := by
  rcases h with ⟨t, a, b⟩ | ⟨a, xs, e, q, n⟩ | ⟨a, k, w, dk, e, q, d, sh, h⟩
  · exact .inl ⟨t, tyXNt a, b⟩
  · exact .inr (.inl ⟨a, xs, e, sxNt q, n⟩)
  · refine .inr (.inr ⟨a, k, w, dk, e, sxNt q, dpNt d, sh, h.imp (fun ⟨z, h⟩ => ⟨z, h.imp id fun ⟨t, a, b⟩ => ⟨t, tyXNt a, b⟩⟩) fun ⟨z, h⟩ => ⟨z, fun z => (h.1 z).nt, fun z => (h.2 z).nt⟩⟩)
theorem CopX.nt {n : Nat} {H : Hp} {x : V} (h : CopX K n H x) : CopX K n (nt H) x := h.imp (fun ⟨d, a, b⟩ => ⟨d, dpNt a, b⟩) fun ⟨a, e, b, c⟩ => ⟨a, e, nt_of b (fun _ z => nomatch z), c⟩
theorem OrdV.nt {H : Hp} {v : V} {ps : List (Str × Str)} (h : OrdV K H v ps) : OrdV K (nt H) v ps := by
  obtain ⟨a, xs, e, h1, h2⟩ := h
  exact ⟨a, xs, e, sxNt h1, paired_imp (fun x p ⟨b, e, q⟩ => ⟨b, e, sxNt q⟩) h2⟩
theorem MH.nt {CM CH : Addr} {H : Hp} {p b : Addr} {o : V} {ys : List Str} {hk : Str → Str} {W : Str → List Str} {lo hi : Str → Int} {ws : List (Mo × Mo × Int)} {es : List PyData} {ps : List (Str × Str)} (h : MH K CM CH H p b o ys hk W lo hi ws es ps) : MH K CM CH (nt H) p b o ys hk W lo hi ws es ps :=
  ⟨h.m.nt, h.h.nt, h.o.nt, h.on, h.ok, h.O, h.srt, h.W⟩
end
end K5
set_option Elab.async false
set_option linter.all false
set_option maxRecDepth 100000
set_option maxHeartbeats 4000000
namespace K5
open PySem L2
local macro_rules | `(tactic| walk_at "rd1") => `(tactic| first
  | refine ⟨_, _, rfl, rfl, ?_⟩
  | refine ⟨_, _, _, _, rfl, rfl, SqL.of (by assumption), rfl, ?_⟩
  | refine ⟨_, _, _, _, rfl, rfl, (by assumption), rfl, ?_⟩
  | refine .inl ⟨_, rfl, ?_⟩
  | refine ⟨_, rfl, ?_⟩
  | refine ⟨(by unfold CMul; omega), ?_⟩
  | refine ⟨(by unfold CPow; omega), ?_⟩
  | refine ⟨(by (try dsimp only); omega), ?_⟩
  | refine ⟨(by unfold CDiv; omega), ?_⟩
  | fail "rd1")
local macro_rules | `(tactic| walk_at "rd") => `(tactic| repeat' (walk_at "rd1"))
section
variable {P : Program} {w : World} {K : PySem.W.Frag} {mg : Str → Option Value} {base : Heap} {A : Ad}
abbrev Rw := Str × Str × Int
def setF {β : Type} (f : Str → β) (v : Str) (x : β) : Str → β := fun n => if n = v then x else f n
theorem setF_same {β : Type} {f : Str → β} {v : Str} {x : β} : setF f v x v = x := if_pos rfl
theorem setF_ne {β : Type} {f : Str → β} {v n : Str} {x : β} (h : n ≠ v) : setF f v x n = f n := if_neg h
structure RS (ns : List Str) (rows : List Rw) (L0 : Str → Int) (t pos : Nat) (L : Str → Int) (cs : List Str) (C τ θ : Str → Nat) (now : Nat) : Prop where
  tn : ∀ v, τ v ≤ now
  ge : ∀ v, L0 v ≤ L v
  mn : ∀ M : Str → Int, (∀ v, L0 v ≤ M v) → (∀ r ∈ rows, M r.2.1 - r.2.2 ≤ M r.1) → ∀ v, L v ≤ M v
  cd : cs.Nodup
  cn : ∀ v ∈ cs, v ∈ ns
  ct : ∀ v, v ∈ cs ↔ 0 < θ v
  th : ∀ v, θ v ≤ t + 1
  ar : ∀ v ∈ cs, ∃ h : C v < rows.length, rows[C v].1 = v ∧ L v ≤ L rows[C v].2.1 - rows[C v].2.2 ∧ (L v < L rows[C v].2.1 - rows[C v].2.2 ∨ τ rows[C v].2.1 < τ v) ∧ θ v ≤ θ rows[C v].2.1 + 1
  rw : ∀ j (h : j < rows.length), L rows[j].2.1 - rows[j].2.2 ≤ L rows[j].1 ∨ (if j < pos then t + 1 ≤ θ rows[j].2.1 else t ≤ θ rows[j].2.1)
theorem RS.start {ns : List Str} {rows : List Rw} {L0 : Str → Int} : RS ns rows L0 0 0 L0 [] (fun _ => 0) (fun _ => 0) (fun _ => 0) 0 :=
  ⟨fun _ => Nat.le_refl _, fun _ => Int.le_refl _, fun M h _ => h, List.nodup_nil, (fun _ m => (nomatch m)), (fun v => ⟨fun m => (nomatch m), fun h => absurd h (Nat.lt_irrefl 0)⟩), (fun _ => Nat.zero_le _), (fun _ m => (nomatch m)), fun j h => .inr (by rw [if_neg (Nat.not_lt_zero _)]; exact Nat.le_refl _)⟩
theorem RS.skip {ns : List Str} {rows : List Rw} {L0 L : Str → Int} {t pos now : Nat} {cs : List Str} {C τ θ : Str → Nat} (h : RS ns rows L0 t pos L cs C τ θ now) (hp : pos < rows.length) (n : ¬ L rows[pos].1 < L rows[pos].2.1 - rows[pos].2.2) : RS ns rows L0 t (pos + 1) L cs C τ θ now :=
  ⟨h.tn, h.ge, h.mn, h.cd, h.cn, h.ct, h.th, h.ar, fun j hj => by
    rcases h.rw j hj with q | q
    · exact .inl q
    · by_cases e : j = pos
      · subst e; exact .inl (by omega)
      · refine .inr ?_
        by_cases c : j < pos
        · rw [if_pos c] at q
          rw [if_pos (by omega)]; exact q
        · rw [if_neg c] at q
          rw [if_neg (by omega)]; exact q⟩
theorem RS.turn {ns : List Str} {rows : List Rw} {L0 L : Str → Int} {t now : Nat} {cs : List Str} {C τ θ : Str → Nat} (h : RS ns rows L0 t rows.length L cs C τ θ now) : RS ns rows L0 (t + 1) 0 L cs C τ θ now :=
  ⟨h.tn, h.ge, h.mn, h.cd, h.cn, h.ct, fun v => Nat.le_succ_of_le (h.th v), h.ar, fun j hj => (h.rw j hj).imp id fun q => by
    rw [if_pos hj] at q
    rw [if_neg (Nat.not_lt_zero _)]; exact q⟩
theorem RS.rise {ns : List Str} {rows : List Rw} {L0 L : Str → Int} {t pos now : Nat} {cs : List Str} {C τ θ : Str → Nat} (h : RS ns rows L0 t pos L cs C τ θ now) (hp : pos < rows.length) (hn : rows[pos].1 ∈ ns) (lt : L rows[pos].1 < L rows[pos].2.1 - rows[pos].2.2) :
    RS ns rows L0 t (pos + 1) (setF L rows[pos].1 (L rows[pos].2.1 - rows[pos].2.2)) (if rows[pos].1 ∈ cs then cs else cs ++ [rows[pos].1]) (setF C rows[pos].1 pos) (setF τ rows[pos].1 (now + 1)) (setF θ rows[pos].1 (t + 1)) (now + 1) := by
  generalize hv : rows[pos].1 = v at hn lt ⊢
  generalize he : rows[pos].2.1 = e at lt ⊢
  generalize hk : rows[pos].2.2 = k at lt ⊢
  have up : ∀ w, L w ≤ setF L v (L e - k) w := fun w => by
    by_cases c : w = v
    · subst c; rw [setF_same]; omega
    · rw [setF_ne c]; exact Int.le_refl _
  have mem : ∀ w, w ∈ (if v ∈ cs then cs else cs ++ [v]) ↔ w ∈ cs ∨ w = v := fun w => by
    by_cases c : v ∈ cs
    · rw [if_pos c]
      exact ⟨.inl, fun q => q.elim id fun q => q ▸ c⟩
    · rw [if_neg c]; simp
  have tup : ∀ w, θ w ≤ setF θ v (t + 1) w := fun w => by
    by_cases c : w = v
    · subst c; rw [setF_same]; exact h.th w
    · rw [setF_ne c]; exact Nat.le_refl _
  refine ⟨fun w => ?_, fun w => Int.le_trans (h.ge w) (up w), fun M h0 hM w => ?_, ?_, fun w m => ?_, fun w => ?_, fun w => ?_, fun w m => ?_, fun j hj => ?_⟩
  · by_cases c : w = v
    · subst c; rw [setF_same]; exact Nat.le_refl _
    · rw [setF_ne c]; exact Nat.le_succ_of_le (h.tn w)
  · by_cases c : w = v
    · subst c
      rw [setF_same]
      have a := h.mn M h0 hM e
      have b := hM _ (List.getElem_mem hp)
      rw [hv, he, hk] at b
      omega
    · rw [setF_ne c]; exact h.mn M h0 hM w
  · by_cases c : v ∈ cs
    · rw [if_pos c]; exact h.cd
    · rw [if_neg c]
      exact List.nodup_append.mpr ⟨h.cd, List.pairwise_singleton _ _, fun a m b q => by rw [List.mem_singleton.mp q]; exact fun z => c (z ▸ m)⟩
  · exact ((mem w).mp m).elim (h.cn w) fun q => q ▸ hn
  · rw [mem]
    by_cases c : w = v
    · subst c
      rw [setF_same]
      exact ⟨fun _ => Nat.succ_pos _, fun _ => .inr rfl⟩
    · rw [setF_ne c, h.ct]
      exact ⟨fun q => q.resolve_right c, .inl⟩
  · by_cases c : w = v
    · subst c; rw [setF_same]; exact Nat.le_refl _
    · rw [setF_ne c]; exact h.th w
  · by_cases c : w = v
    · subst c
      rw [setF_same]
      refine ⟨hp, hv, ?_⟩
      rw [he, hk]
      by_cases ce : e = w
      · subst ce
        rw [setF_same, setF_same]
        exact ⟨by omega, .inl (by omega), by omega⟩
      · rw [setF_same, setF_ne ce, setF_same, setF_ne ce, setF_same, setF_ne ce]
        refine ⟨Int.le_refl _, .inr (Nat.lt_succ_of_le (h.tn e)), ?_⟩
        -- the row's end rose not long ago
        rcases h.rw pos hp with q | q
        · rw [hv, he, hk] at q; omega
        · rw [if_neg (Nat.lt_irrefl _), he] at q; omega
    · have m : w ∈ cs := ((mem w).mp m).resolve_right c
      rw [setF_ne c]
      obtain ⟨h1, h2, h3, h4, h5⟩ := h.ar w m
      refine ⟨h1, h2, ?_⟩
      rw [setF_ne c, setF_ne c, setF_ne c]
      by_cases ce : rows[C w].2.1 = v
      · rw [ce] at h3 h4 h5 ⊢
        rw [setF_same, setF_same, setF_same]
        have := h.th w
        exact ⟨by omega, .inl (by omega), by omega⟩
      · rw [setF_ne ce, setF_ne ce, setF_ne ce]
        exact ⟨h3, h4, h5⟩
  · by_cases ce : rows[j].2.1 = v
    · refine .inr ?_
      rw [ce, setF_same]
      split <;> omega
    · rw [setF_ne ce]
      by_cases e2 : j = pos
      · subst e2
        refine .inl ?_
        rw [hv, setF_same, he, hk]
        exact Int.le_refl _
      · rcases h.rw j hj with q | q
        · exact .inl (Int.le_trans q (up _))
        · refine .inr ?_
          rw [setF_ne ce]
          by_cases c : j < pos
          · rw [if_pos c] at q
            rw [if_pos (by omega)]; exact q
          · rw [if_neg c] at q
            rw [if_neg (by omega)]; exact q
theorem RS.kept {ns : List Str} {rows : List Rw} {L0 L : Str → Int} {t now : Nat} {cs : List Str} {C τ θ : Str → Nat} (h : RS ns rows L0 t rows.length L cs C τ θ now) (hn : ∀ v, θ v ≤ t) : ∀ r ∈ rows, L r.2.1 - r.2.2 ≤ L r.1 := fun r m => by
  obtain ⟨j, hj, rfl⟩ := List.getElem_of_mem m
  rcases h.rw j hj with q | q
  · exact q
  · rw [if_pos hj] at q
    have := hn rows[j].2.1
    omega
/-- a way along rows -/
inductive Pth (rows : List Rw) : Str → List Nat → Str → Int → Prop
  | nil (v : Str) : Pth rows v [] v 0
  | cons {i : Nat} {is : List Nat} {u : Str} {s : Int} (h : i < rows.length) (t : Pth rows rows[i].2.1 is u s) : Pth rows rows[i].1 (i :: is) u (rows[i].2.2 + s)
theorem Pth.snoc {rows : List Rw} {v : Str} {is : List Nat} {u : Str} {s : Int} (p : Pth rows v is u s) {i : Nat} (h : i < rows.length) (e : rows[i].1 = u) : Pth rows v (is ++ [i]) rows[i].2.1 (s + rows[i].2.2) := by
  induction p with
  | nil v =>
    subst e
    have := Pth.cons h (.nil rows[i].2.1)
    rw [show (0 : Int) + rows[i].2.2 = rows[i].2.2 + 0 by omega]
    exact this
  | @cons j js u s hj t ih =>
    have := Pth.cons hj (ih e)
    rw [show rows[j].2.2 + s + rows[i].2.2 = rows[j].2.2 + (s + rows[i].2.2) by omega]
    exact this
theorem Pth.lt {rows : List Rw} {v u : Str} {is : List Nat} {s : Int} (p : Pth rows v is u s) : ∀ i ∈ is, i < rows.length := by
  induction p with
  | nil v => exact fun _ m => nomatch m
  | cons h t ih => exact fun i m => (List.mem_cons.mp m).elim (fun e => e ▸ h) (ih i)
theorem Pth.nil_inv {rows : List Rw} {v u : Str} {s : Int} (p : Pth rows v [] u s) : v = u ∧ s = 0 := by
  cases p
  exact ⟨rfl, rfl⟩
/-- sums that keep all rows of a way -/
theorem Pth.keep {rows : List Rw} {v u : Str} {is : List Nat} {s : Int} {S : Str → Int} (p : Pth rows v is u s) (h : ∀ i ∈ is, ∀ hi : i < rows.length, S rows[i].2.1 - rows[i].2.2 ≤ S rows[i].1) : S u - s ≤ S v := by
  induction p with
  | nil v => omega
  | @cons j js u s hj t ih =>
    have a := ih fun i m hi => h i (.tail _ m) hi
    have b := h j (.head _) hj
    omega
/-- a ring of rows -/
def RingI (rows : List Rw) (is : List Nat) : Prop := is ≠ [] ∧ ∃ v s, Pth rows v is v s ∧ s < 0
theorem RingI.breaks {rows : List Rw} {is : List Nat} (h : RingI rows is) (S : Str → Int) : ∃ i ∈ is, ∃ hi : i < rows.length, ¬ S rows[i].2.1 - rows[i].2.2 ≤ S rows[i].1 := by
  obtain ⟨_, v, s, p, neg⟩ := h
  refine Decidable.byContradiction fun n => ?_
  have := p.keep (S := S) fun i m hi => Decidable.byContradiction fun q => n ⟨i, m, hi, q⟩
  omega
/-- from cause to cause -/
def nxt (rows : List Rw) (C : Str → Nat) (v : Str) : Str := (rows.getD (C v) ("", "", 0)).2.1
def itr (f : Str → Str) : Nat → Str → Str
  | 0, v => v
  | n + 1, v => f (itr f n v)
theorem itr_add (f : Str → Str) (a : Nat) (v : Str) : ∀ b, itr f (a + b) v = itr f b (itr f a v)
  | 0 => rfl
  | b + 1 => congrArg f (itr_add f a v b)
theorem nodup_le {α : Type} [DecidableEq α] : ∀ {l l' : List α}, l.Nodup → (∀ x ∈ l, x ∈ l') → l.length ≤ l'.length
  | [], _, _, _ => Nat.zero_le _
  | x :: l, l', nd, h => by
    obtain ⟨n1, n2⟩ := List.nodup_cons.mp nd
    have m := h x (.head _)
    have := nodup_le (l := l) (l' := l'.erase x) n2 fun y q => (List.mem_erase_of_ne (fun e => n1 (by rw [← e]; exact q))).mpr (h y (.tail _ q))
    rw [List.length_erase_of_mem m] at this
    have := List.length_pos_of_mem m
    rw [List.length_cons]; omega
theorem RS.step1 {ns : List Str} {rows : List Rw} {L0 L : Str → Int} {t pos now : Nat} {cs : List Str} {C τ θ : Str → Nat} (h : RS ns rows L0 t pos L cs C τ θ now) {v : Str} (m : v ∈ cs) : ∃ hi : C v < rows.length, rows[C v].1 = v ∧ nxt rows C v = rows[C v].2.1 ∧ θ v ≤ θ (nxt rows C v) + 1 := by
  obtain ⟨h1, h2, _, _, h5⟩ := h.ar v m
  have e : nxt rows C v = rows[C v].2.1 := by unfold nxt; rw [List.getD_eq_getElem?_getD, List.getElem?_eq_getElem h1]; rfl
  exact ⟨h1, h2, e, by rw [e]; exact h5⟩
/-- the way from cause to cause never ends -/
theorem RS.way {ns : List Str} {rows : List Rw} {L0 L : Str → Int} {t now : Nat} {cs : List Str} {C τ θ : Str → Nat} (h : RS ns rows L0 t rows.length L cs C τ θ now) (nd : ns.Nodup) (hN : ns.length = t + 1) (he : ∀ r ∈ rows, r.2.1 ∈ ns) {r : Str} (hr : θ r = t + 1) :
    (∀ i, itr (nxt rows C) i r ∈ cs) ∧ ∃ d, 0 < d ∧ d ≤ cs.length ∧ itr (nxt rows C) (cs.length + d) r = itr (nxt rows C) cs.length r := by
  have dn : ∀ i, i < t + 1 → t + 1 - i ≤ θ (itr (nxt rows C) i r) := fun i => by
    induction i with
    | zero => intro _; show t + 1 ≤ θ r; omega
    | succ i ih =>
      intro hi
      have a := ih (by omega)
      obtain ⟨_, _, _, q⟩ := h.step1 ((h.ct (itr (nxt rows C) i r)).mpr (by omega))
      show t + 1 - (i + 1) ≤ θ (nxt rows C (itr (nxt rows C) i r))
      omega
  have low : ∀ i, i < t + 1 → itr (nxt rows C) i r ∈ cs := fun i hi => (h.ct _).mpr (by have := dn i hi; omega)
  have ml : cs.length ≤ t + 1 := by rw [← hN]; exact nodup_le h.cd h.cn
  have first : ∀ i, i ≤ cs.length → itr (nxt rows C) i r ∈ cs := fun i hi => by
    by_cases c : i < t + 1
    · exact low i c
    · have e : i = t + 1 := by omega
      have full : ∀ v ∈ ns, v ∈ cs := fun v m => by
        refine Decidable.byContradiction fun n => ?_
        have := nodup_le (l := v :: cs) (l' := ns) (List.nodup_cons.mpr ⟨n, h.cd⟩) fun x q => (List.mem_cons.mp q).elim (fun e => e ▸ m) (h.cn x)
        rw [List.length_cons] at this
        omega
      subst e
      refine full _ ?_
      obtain ⟨hi2, _, e2, _⟩ := h.step1 (low t (Nat.lt_succ_self t))
      show nxt rows C (itr (nxt rows C) t r) ∈ ns
      rw [e2]
      exact he _ (List.getElem_mem hi2)
  obtain ⟨a, b, ab, bm, eq⟩ : ∃ a b, a < b ∧ b ≤ cs.length ∧ itr (nxt rows C) a r = itr (nxt rows C) b r := by
    refine Classical.byContradiction fun n => ?_
    have inj : ∀ a b, a < b → b ≤ cs.length → itr (nxt rows C) a r ≠ itr (nxt rows C) b r := fun a b h1 h2 h3 => n ⟨a, b, h1, h2, h3⟩
    have := nodup_le (l := (List.range (cs.length + 1)).map fun i => itr (nxt rows C) i r) (l' := cs) (List.pairwise_map.mpr (List.pairwise_lt_range.imp_of_mem fun {a b} ma mb q => inj a b q (by have := List.mem_range.mp mb; omega))) fun x q => by
      obtain ⟨i, mi, rfl⟩ := List.mem_map.mp q
      exact first i (by have := List.mem_range.mp mi; omega)
    rw [List.length_map, List.length_range] at this
    omega
  have per : ∀ k, itr (nxt rows C) (a + k) r = itr (nxt rows C) (b + k) r := fun k => by rw [itr_add, itr_add, eq]
  refine ⟨fun i => ?_, b - a, by omega, by omega, ?_⟩
  · have : ∀ n i, i ≤ n → itr (nxt rows C) i r ∈ cs := fun n => by
      induction n with
      | zero => intro i hi; exact first i (by omega)
      | succ n ih =>
        intro i hi
        by_cases c : i ≤ cs.length
        · exact first i c
        · have := per (i - b)
          rw [show b + (i - b) = i by omega] at this
          rw [← this]
          exact ih _ (by omega)
    exact this i i (Nat.le_refl _)
  · have := per (cs.length - a)
    rw [show a + (cs.length - a) = cs.length by omega, show b + (cs.length - a) = cs.length + (b - a) by omega] at this
    exact this.symm
/-- a way of causes: less than 0 if it goes round -/
theorem RS.sum {ns : List Str} {rows : List Rw} {L0 L : Str → Int} {t pos now : Nat} {cs : List Str} {C τ θ : Str → Nat} (h : RS ns rows L0 t pos L cs C τ θ now) {v u : Str} {is : List Nat} {s : Int} (p : Pth rows v is u s) (hc : ∀ i ∈ is, ∃ w ∈ cs, C w = i) : L v ≤ L u - s ∧ (is ≠ [] → L v < L u - s ∨ τ u < τ v) := by
  induction p with
  | nil v => exact ⟨by omega, fun n => absurd rfl n⟩
  | @cons j js u s hj q ih =>
    obtain ⟨a, b⟩ := ih fun i m => hc i (.tail _ m)
    obtain ⟨w, hw, ew⟩ := hc j (.head _)
    subst ew
    obtain ⟨_, h2, h3, h4, _⟩ := h.ar w hw
    rw [h2]
    refine ⟨by omega, fun _ => ?_⟩
    by_cases e : js = []
    · subst e
      obtain ⟨e1, e2⟩ := q.nil_inv
      subst e2
      rw [← e1]
      rcases h4 with h4 | h4
      · exact .inl (by omega)
      · exact .inr h4
    · rcases h4 with h4 | h4
      · exact .inl (by omega)
      · rcases b e with b | b
        · exact .inl (by omega)
        · exact .inr (Nat.lt_trans b h4)
theorem RS.ring {ns : List Str} {rows : List Rw} {L0 L : Str → Int} {t pos now : Nat} {cs : List Str} {C τ θ : Str → Nat} (h : RS ns rows L0 t pos L cs C τ θ now) {v : Str} {is : List Nat} {s : Int} (p : Pth rows v is v s) (n : is ≠ []) (hc : ∀ i ∈ is, ∃ w ∈ cs, C w = i) : RingI rows is :=
  ⟨n, v, s, p, by
    obtain ⟨_, b⟩ := h.sum p hc
    rcases b n with b | b
    · omega
    · exact absurd b (Nat.lt_irrefl _)⟩
end
end K5
set_option Elab.async false
set_option linter.all false
set_option maxRecDepth 100000
set_option maxHeartbeats 4000000
namespace K5
open PySem L2
local macro_rules | `(tactic| walk_at "rd1") => `(tactic| first
  | refine ⟨_, _, rfl, rfl, ?_⟩
  | refine ⟨_, _, _, _, rfl, rfl, SqL.of (by assumption), rfl, ?_⟩
  | refine ⟨_, _, _, _, rfl, rfl, (by assumption), rfl, ?_⟩
  | refine .inl ⟨_, rfl, ?_⟩
  | refine ⟨_, rfl, ?_⟩
  | refine ⟨(by unfold CMul; omega), ?_⟩
  | refine ⟨(by unfold CPow; omega), ?_⟩
  | refine ⟨(by (try dsimp only); omega), ?_⟩
  | refine ⟨(by unfold CDiv; omega), ?_⟩
  | fail "rd1")
local macro_rules | `(tactic| walk_at "rd") => `(tactic| repeat' (walk_at "rd1"))
open Own
section
variable {P : Program} {w : World} {K : PySem.W.Frag} {mg : Str → Option Value} {base : Heap} {A : Ad}
structure RvL (K : PySem.W.Frag) (H : Hp) (lr : Addr) (bs : List Addr) (rows : List Rw) (nm : Nat → V) : Prop where
  at_ : H lr = some (.lst (bs.map V.ref))
  len : bs.length = rows.length
  row : ∀ i (h : i < rows.length), SqT K H (bs.getD i 0) [.str rows[i].1, .str rows[i].2.1, .int rows[i].2.2, nm i]
theorem RvL.up {H H' : Hp} {lr : Addr} {bs : List Addr} {rows : List Rw} {nm : Nat → V} (h : RvL K H lr bs rows nm) (s : Same H H') : RvL K H' lr bs rows nm := ⟨s _ _ h.at_, h.len, fun i hi => stUp (h.row i hi) s⟩
def refsR (bs : List Addr) (is : List Nat) : List V := is.map fun i => V.ref (bs.getD i 0)
theorem atI_last {α : Type} (xs : List α) (x : α) : atI (xs ++ [x]) (-1) = some x := by
  unfold atI ixN
  rw [List.length_append, List.length_singleton, if_neg (by omega), if_pos (by omega)]
  show (xs ++ [x])[((-1 : Int) + ((xs.length + 1 : Nat) : Int)).toNat]? = some x
  rw [show ((-1 : Int) + ((xs.length + 1 : Nat) : Int)).toNat = xs.length by omega]
  simp
def spBehind (K : PySem.W.Frag) : Sp := fun vs H Q _ => ∃ (r : Str) (dc lr : Addr) (bs : List Addr) (rows : List Rw) (nm : Nat → V) (cs : List Str) (C : Str → Nat) (d : Nat), vs = [.str r, .ref dc] ∧ H dc = some (.dK (kvF cs fun n => .ref (bs.getD (C n) 0))) ∧ RvL K H lr bs rows nm ∧ cs.Nodup ∧ cs.length ≤ 64 ∧
  (∀ v ∈ cs, ∃ h : C v < rows.length, rows[C v].1 = v ∧ nxt rows C v = rows[C v].2.1) ∧ (∀ i, itr (nxt rows C) i r ∈ cs) ∧ 0 < d ∧ d ≤ 64 ∧ itr (nxt rows C) (cs.length + d) r = itr (nxt rows C) cs.length r ∧
  ∀ l is v s H', Same H H' → H l = none → H' l = some (.lst (refsR bs is)) → is ≠ [] → Pth rows v is v s → (∀ i ∈ is, ∃ w ∈ cs, C w = i) → is.length ≤ 64 → Q (.ref l) H'
theorem ok_behind (T : Txt K mg A) : FnOk P w K mg base CX0 1 A.a_ring_behind A.d_ring_behind P_ring_behind (spBehind K) := by
  refine T.f_ring_behind.ok sc_ring_behind (fun vs H Q E h => ?_) (fun cdv A' outer s H vs Q E hr h => ?_)
  · obtain ⟨r, dc, lr, bs, rows, nm, cs, C, d, rfl, _⟩ := h
    rfl
  · obtain ⟨r, dc, lr, bs, rows, nm, cs, C, d, rfl, hc, hR, nd, cl, hC, hin, d0, d64, hd, k⟩ := h
    refine ⟨_, (pss_cons (ps_set (i := 2) sc_ring_behind.nd rfl (Or.inl rfl) (pv 0))
 (pss_cons (ps_for PassesOwn.never rfl (pi_range1 (by rfl) T.range (pa_cons (pe_callB call_lenD (by rfl) T.len PySem.boot_len (pa_cons (pv 1) pa_nil)) pa_nil)) (pg_name (i := 3) sc_ring_behind.nd rfl (Or.inl rfl))
 (pss_one (ps_set (i := 2) sc_ring_behind.nd rfl (Or.inl rfl) (pe_ix ix_tup (pe_dget (hu_of hr) (pv 1) (pv 2) (fun _ _ => rfl)) pe_int (fun _ _ => rfl)))))
 (pss_cons (ps_set (i := 4) sc_ring_behind.nd rfl (Or.inl rfl) (pe_lst (pa_cons (pe_dget (hu_of hr) (pv 1) (pv 2) (fun _ _ => rfl)) pa_nil)))
 (pss_cons (ps_while PassesOwn.never (pt_cmpR op_ne (pe_ix ix_tup (pe_ix ix_list (pv 4) (pe_un un_neg pe_int) (fun _ _ => rfl)) pe_int (fun _ _ => rfl)) (pv 2) (nomark _))
 (pss_one (ps_expr (pe_bm PySem.F.plainAttrs_list PySem.F.slot_list_append PySem.F.type_list_append mt_append (pv 4) (pa_cons (pe_dget (hu_of hr) (pv 1) (pe_ix ix_tup (pe_ix ix_list (pv 4) (pe_un un_neg pe_int) (fun _ _ => rfl)) pe_int (fun _ _ => rfl)) (fun _ _ => rfl)) pa_nil)))))
 (pss_one (ps_ret (pv 4))))))), ?_⟩
    have get : ∀ v ∈ cs, valV (kvF cs fun n => V.ref (bs.getD (C n) 0)) (.inr v) = some (.ref (bs.getD (C v) 0)) := fun v m => kvF_val (f := fun n => V.ref (bs.getD (C n) 0)) nd m
    refine ⟨_, rfl, ?_⟩
    have kl : (kvF cs fun n => V.ref (bs.getD (C n) 0)).length = cs.length := kvF_len _ _
    have step : ∀ v ∈ cs, ∀ H', Same H H' → SqT K H' (bs.getD (C v) 0) [.str v, .str (nxt rows C v), .int (rows.getD (C v) ("", "", 0)).2.2, nm (C v)] := fun v m H' s => by
      obtain ⟨hi, h1, h2⟩ := hC v m
      have := stUp (hR.row (C v) hi) s
      rw [h1, ← h2] at this
      rw [getD_of hi]
      exact this
    refine ⟨_, rfl, dc, _, rfl, hc, _, rfl, by rw [kl]; omega, by rw [kl]; omega, for_range (lo := 0) (n := (kvF cs fun n => V.ref (bs.getD (C n) 0)).length) (fun i σ' H' => ∃ x3 x4, σ' = [some (.str r), some (.ref dc), some (.str (itr (nxt rows C) i r)), x3, x4] ∧ H' = H) ⟨_, _, rfl, rfl⟩ ?_ (fun σ' H' z => ?_)⟩
    · rintro i σ' H' hi ⟨x3, x4, rfl, rfl⟩
      have m := hin i
      refine ⟨_, rfl, _, rfl, dc, .ref (bs.getD (C (itr (nxt rows C) i r)) 0), rfl, .inl ⟨_, .inr _, .inl hc, rfl, (get _ m).symm⟩, _, _, _, _, rfl, rfl, step _ m _ (Same.refl _), rfl, ?_⟩
      exact ⟨_, _, rfl, rfl⟩
    obtain ⟨x3, x4, rfl, eH⟩ := z
    rw [kl, eH]
    dsimp only [List.set]
    generalize ea : itr (nxt rows C) cs.length r = at0 at hd ⊢
    have mat : ∀ j, itr (nxt rows C) j at0 ∈ cs := fun j => by rw [← ea, ← itr_add]; exact hin _
    have hd : itr (nxt rows C) d at0 = at0 := by rw [itr_add, ea] at hd; exact hd
    -- the ring begins
    refine ⟨_, rfl, _, rfl, dc, .ref (bs.getD (C at0) 0), rfl, .inl ⟨_, .inr _, .inl hc, rfl, (get _ (mat 0)).symm⟩, by show 1 ≤ sizeLine; decide, fun l nl => ?_⟩
    have s1 := Same.new nl (o := .lst [.ref (bs.getD (C at0) 0)])
    have hl : upd H l (.lst [.ref (bs.getD (C at0) 0)]) l = some (.lst (refsR bs ([] ++ [C at0]))) := upd_same
    refine cast_heap (b := upd H l (.lst [.ref (bs.getD (C at0) 0)])) rfl ?_
    generalize upd H l (.lst [.ref (bs.getD (C at0) 0)]) = H1 at s1 hl ⊢
    have snocP : ∀ {j : Nat} {is : List Nat} {s : Int}, Pth rows at0 is (itr (nxt rows C) j at0) s → ∃ s', Pth rows at0 (is ++ [C (itr (nxt rows C) j at0)]) (itr (nxt rows C) (j + 1) at0) s' := fun {j is s} p => by
      obtain ⟨hi, h1, h2⟩ := hC _ (mat j)
      have := p.snoc hi h1
      rw [← h2] at this
      exact ⟨_, this⟩
    refine while_ex (fun mm σ' H' => ∃ (is : List Nat) (s : Int) (x3 : Option V), σ' = [some (.str r), some (.ref dc), some (.str at0), x3, some (.ref l)] ∧ Same H H' ∧ H' l = some (.lst (refsR bs (is ++ [C (itr (nxt rows C) is.length at0)]))) ∧ Pth rows at0 is (itr (nxt rows C) is.length at0) s ∧ (∀ i ∈ is, ∃ w ∈ cs, C w = i) ∧ is.length + 1 ≤ d ∧ mm = d - is.length)
        (fun σ' H' => ∃ (is : List Nat) (s : Int) (x3 : Option V), σ' = [some (.str r), some (.ref dc), some (.str at0), x3, some (.ref l)] ∧ Same H H' ∧ H' l = some (.lst (refsR bs is)) ∧ is ≠ [] ∧ Pth rows at0 is at0 s ∧ (∀ i ∈ is, ∃ w ∈ cs, C w = i) ∧ is.length ≤ 64)
        ⟨[], 0, _, rfl, s1, hl, .nil _, (fun _ m => (nomatch m)), by show 0 + 1 ≤ d; omega, rfl⟩ (fun nx hnx => ?_) ?_
    · rintro mm σ' H' ⟨is, s', y3, rfl, S, hl1, p, hcs, le, rfl⟩
      have m := mat is.length
      have hla : atI (refsR bs (is ++ [C (itr (nxt rows C) is.length at0)])) (-1) = some (.ref (bs.getD (C (itr (nxt rows C) is.length at0)) 0)) := by
        unfold refsR
        rw [List.map_append]
        exact atI_last _ _
      have q := step _ m _ S
      obtain ⟨s2, p2⟩ := snocP p
      have hcs2 : ∀ i ∈ is ++ [C (itr (nxt rows C) is.length at0)], ∃ w ∈ cs, C w = i := fun i mi => (List.mem_append.mp mi).elim (hcs i) fun mi => ⟨_, m, (List.mem_singleton.mp mi).symm⟩
      refine ⟨_, rfl, _, rfl, _, _, _, _, rfl, rfl, SqL.of hl1, hla, _, _, _, _, rfl, rfl, q, rfl, _, rfl, rfl, _, rfl, ite2 (fun c1 => ?_) (fun c1 => ?_)⟩
      · refine ⟨_, fun _ _ z => z, ?_⟩
        have ne : itr (nxt rows C) (is.length + 1) at0 ≠ at0 := fun e => by
          have e : nxt rows C (itr (nxt rows C) is.length at0) = at0 := e
          rw [e] at c1
          simp at c1
        have lt : is.length + 1 < d := by
          rcases Nat.lt_or_ge (is.length + 1) d with h | h
          · exact h
          · exact absurd (by rw [show is.length + 1 = d by omega]; exact hd) ne
        refine ⟨_, rfl, .inl ⟨rfl, _, SqL.of hl1⟩, ?_⟩
        have m2 := mat (is.length + 1)
        refine ⟨_, rfl, _, rfl, _, rfl, _, _, _, _, rfl, rfl, SqL.of hl1, hla, _, _, _, _, rfl, rfl, q, rfl, dc, .ref (bs.getD (C (itr (nxt rows C) (is.length + 1) at0)) 0), rfl, .inl ⟨_, .inr _, .inl (S _ _ hc), rfl, (get _ m2).symm⟩, ?_⟩
        refine ⟨l, _, _, rfl, rfl, hl1, by unfold refsR; rw [List.length_map, List.length_append, List.length_singleton]; exact Nat.lt_of_le_of_lt (show is.length + 1 ≤ 64 by omega) (by decide), ?_⟩
        refine ⟨d - (is.length + 1), by omega, is ++ [C (itr (nxt rows C) is.length at0)], s2, _, rfl, fun b u e => by rw [upd_ne (ne_of_none e nl)]; exact S _ _ e, ?_, ?_, hcs2, ?_, ?_⟩
        · rw [upd_same, List.length_append, List.length_singleton]
          unfold refsR
          rw [List.map_append (l₁ := is ++ [C (itr (nxt rows C) is.length at0)])]
          rfl
        · rw [List.length_append, List.length_singleton]; exact p2
        · rw [List.length_append, List.length_singleton]; omega
        · rw [List.length_append, List.length_singleton]
      · have e : itr (nxt rows C) (is.length + 1) at0 = at0 := by
          refine Classical.byContradiction fun n => c1 ?_
          have n : nxt rows C (itr (nxt rows C) is.length at0) ≠ at0 := n
          simp [n]
        rw [e] at p2
        exact hnx _ _ ⟨_, s2, _, rfl, S, hl1, by simp, p2, hcs2, by rw [List.length_append, List.length_singleton]; omega⟩
    · rintro σ' H' ⟨is, s', y3, rfl, S, hl1, ne, p, hcs, le⟩
      exact ⟨_, rfl, k l is at0 s' H' S nl hl1 ne p hcs le⟩
def KeptR (rows : List Rw) (L : Str → Int) : Prop := ∀ r ∈ rows, L r.2.1 - r.2.2 ≤ L r.1
theorem putK_F {ns : List Str} {f : Str → V} {v : Str} {x : V} (m : v ∈ ns) : putK (kvF ns f) (.inr v) x = kvF ns (fun n => if n = v then x else f n) := by
  have e : putK (kvF ns f) (.inr v) x = (kvF ns f).map (fun kv => if kv.1 = .inr v then (kv.1, x) else kv) := by
    refine if_pos (List.any_eq_true.mpr ⟨(.inr v, f v), ?_, decide_eq_true rfl⟩)
    exact List.mem_map.mpr ⟨v, m, rfl⟩
  rw [e]
  unfold kvF
  rw [List.map_map]
  refine List.map_congr_left fun n _ => ?_
  show (if (Sum.inr n : Key) = .inr v then ((Sum.inr n : Key), x) else (.inr n, f n)) = (.inr n, if n = v then x else f n)
  by_cases c : n = v
  · rw [if_pos (congrArg Sum.inr c), if_pos c]
  · rw [if_neg (fun z => c (Sum.inr.inj z)), if_neg c]
theorem putK_C {cs : List Str} {g : Nat → V} {C : Str → Nat} {v : Str} {i : Nat} : putK (kvF cs fun n => g (C n)) (.inr v) (g i) = kvF (if v ∈ cs then cs else cs ++ [v]) (fun n => g (setF C v i n)) := by
  by_cases m : v ∈ cs
  · rw [if_pos m, putK_F m]
    refine List.map_congr_left fun n _ => ?_
    show (Sum.inr n, if n = v then g i else g (C n)) = (Sum.inr n, g (setF C v i n))
    by_cases c : n = v
    · subst c; rw [if_pos rfl, setF_same]
    · rw [if_neg c, setF_ne c]
  · rw [if_neg m, put_new _ _ _ (by rw [kvF_keys]; intro z; obtain ⟨y, hy, e⟩ := List.mem_map.mp z; exact m (by rw [← Sum.inr.inj e]; exact hy)), kvF_snoc, setF_same]
    congr 1
    refine List.map_congr_left fun n q => ?_
    show (Sum.inr n, g (C n)) = (Sum.inr n, g (setF C v i n))
    rw [setF_ne fun e => m (by rw [← e]; exact q)]
def spRaised (K : PySem.W.Frag) : Sp := fun vs H Q _ => ∃ (ds lr : Addr) (ns : List Str) (L0 : Str → Int) (bs : List Addr) (rows : List Rw) (nm : Nat → V), vs = [.ref ds, .ref lr] ∧ H ds = some (.dK (kvF ns fun n => .int (L0 n))) ∧ ns.Nodup ∧ 0 < ns.length ∧ ns.length ≤ 64 ∧ RvL K H lr bs rows nm ∧ (∀ r ∈ rows, r.1 ∈ ns ∧ r.2.1 ∈ ns) ∧
  (∀ t dl L H', Same H H' → H t = none → H dl = none → H' t = some (.tup [.ref dl, .non]) → H' dl = some (.dK (kvF ns fun n => .int (L n))) → (∀ v, L0 v ≤ L v) → KeptR rows L → (∀ M : Str → Int, (∀ v, L0 v ≤ M v) → KeptR rows M → ∀ v, L v ≤ M v) → Q (.ref t) H') ∧
  (∀ t lq is H', Same H H' → H t = none → H lq = none → H' t = some (.tup [.non, .ref lq]) → H' lq = some (.lst (refsR bs is)) → RingI rows is → is.length ≤ 64 → Q (.ref t) H')
theorem ok_raised (T : Txt K mg A) : FnOk P w K mg base CX0 2 A.a_raised A.d_raised P_raised (spRaised K) := by
  have G_ring_behind : FnOk P w K mg base CX0 1 A.a_ring_behind A.d_ring_behind P_ring_behind (spBehind K) := ok_behind T
  refine T.f_raised.ok sc_raised (fun vs H Q E h => ?_) (fun cdv A' outer s H vs Q E hr h => ?_)
  · obtain ⟨ds, lr, ns, L0, bs, rows, nm, rfl, _⟩ := h
    rfl
  · obtain ⟨ds, lr, ns, L0, bs, rows, nm, rfl, hs, nd, n0, nl, hR, hin, k1, k2⟩ := h
    refine ⟨_, (pss_cons (ps_set (i := 2) sc_raised.nd rfl (Or.inl rfl) (pe_callTy call_dictD (by rfl) T.dict (by decide +kernel) (pa_cons (pv 0) pa_nil)))
 (pss_cons (ps_set (i := 3) sc_raised.nd rfl (Or.inl rfl) pe_dnewK)
 (pss_cons (ps_for PassesOwn.never rfl (pi_range1 (by rfl) T.range (pa_cons (pe_callB call_lenD (by rfl) T.len PySem.boot_len (pa_cons (pv 0) pa_nil)) pa_nil)) (pg_name (i := 4) sc_raised.nd rfl (Or.inl rfl))
 (pss_cons (ps_set (i := 5) sc_raised.nd rfl (Or.inl rfl) pe_non)
 (pss_cons (ps_for PassesOwn.never rfl (pi_list (pv 1)) (pg_name (i := 6) sc_raised.nd rfl (Or.inl rfl))
 (pss_cons (ps_asg (pv 6) (pg_tup (by rfl) (pgs_cons (pg_name (i := 7) sc_raised.nd rfl (Or.inl rfl)) (pgs_cons (pg_name (i := 8) sc_raised.nd rfl (Or.inl rfl)) (pgs_cons (pg_name (i := 9) sc_raised.nd rfl (Or.inl rfl)) (pgs_cons (pg_name (i := 10) sc_raised.nd rfl (Or.inl rfl)) pgs_nil))))))
 (pss_one (ps_if (pt_cmpR op_lt (pe_dget (hu_of hr) (pv 2) (pv 7) (fun _ _ => rfl)) (pe_op op_sub (pe_dget (hu_of hr) (pv 2) (pv 8) (fun _ _ => rfl)) (pv 9)) (nomark _))
 (pss_cons (ps_dput (hu_of hr) (pv 2) (pv 7) (pe_op op_sub (pe_dget (hu_of hr) (pv 2) (pv 8) (fun _ _ => rfl)) (pv 9)) rfl)
 (pss_cons (ps_dput (hu_of hr) (pv 3) (pv 7) (pv 6) rfl)
 (pss_one (ps_set (i := 5) sc_raised.nd rfl (Or.inl rfl) (pv 7)))))
 pss_nil))))
 (pss_one (ps_if (pt_cmpR op_isN (pv 5) pe_non (nomark _))
 (pss_one (ps_ret (pe_tup (pa_cons (pv 2) (pa_cons pe_non pa_nil)))))
 pss_nil)))))
 (pss_one (ps_ret (pe_tup (pa_cons pe_non (pa_cons (pe_call G_ring_behind (hr.mono (by omega)) (by rfl) T.g_ring_behind T.f_ring_behind.kp T.b_ring_behind .nil pass0 (pa_cons (pv 5) (pa_cons (pv 3) pa_nil))) pa_nil)))))))), ?_⟩
    refine ⟨_, rfl, ds, _, rfl, .inl hs, fun dl ndl dc ndc => ?_⟩
    have ndc0 : H dc = none := by
      by_cases e : dc = dl
      · rw [e, upd_same] at ndc; cases ndc
      · rwa [upd_ne e] at ndc
    have dne : dl ≠ dc := fun e => by rw [← e, upd_same] at ndc; cases ndc
    have s2 : Same H (upd (upd H dl (.dK (kvF ns fun n => .int (L0 n)))) dc (.dK [])) := (Same.new ndl).trans (Same.new ndc)
    have hdl : upd (upd H dl (.dK (kvF ns fun n => .int (L0 n)))) dc (.dK []) dl = some (.dK (kvF ns fun n => .int (L0 n))) := by rw [upd_ne dne, upd_same]
    have hdc : upd (upd H dl (.dK (kvF ns fun n => .int (L0 n)))) dc (.dK []) dc = some (.dK (kvF [] fun _ => .ref (bs.getD 0 0))) := upd_same
    refine cast_heap (b := upd (upd H dl (.dK (kvF ns fun n => .int (L0 n)))) dc (.dK [])) rfl ?_
    generalize upd (upd H dl (.dK (kvF ns fun n => .int (L0 n)))) dc (.dK []) = H2 at s2 hdl hdc ⊢
    dsimp only [List.set]
    have kl : (kvF ns fun n => V.int (L0 n)).length = ns.length := kvF_len _ _
    refine ⟨_, rfl, ds, _, rfl, s2 _ _ hs, _, rfl, by rw [kl]; omega, by rw [kl]; omega, for_range (lo := 0) (n := (kvF ns fun n => V.int (L0 n)).length) (fun i σ' H' => ∃ (L : Str → Int) (cs : List Str) (C τ θ : Str → Nat) (now : Nat) (x4 x5 x6 x7 x8 x9 x10 : Option V), σ' = [some (.ref ds), some (.ref lr), some (.ref dl), some (.ref dc), x4, x5, x6, x7, x8, x9, x10] ∧ Same H H' ∧ H' dl = some (.dK (kvF ns fun n => .int (L n))) ∧ H' dc = some (.dK (kvF cs fun n => .ref (bs.getD (C n) 0))) ∧ RS ns rows L0 i 0 L cs C τ θ now ∧ (∀ v, θ v ≤ i) ∧ (0 < i → RS ns rows L0 (i - 1) rows.length L cs C τ θ now ∧ ∃ r, x5 = some (.str r) ∧ θ r = i))
      ⟨L0, [], (fun _ => 0), (fun _ => 0), (fun _ => 0), 0, _, _, _, _, _, _, _, rfl, s2, hdl, hdc, RS.start, (fun _ => Nat.le_refl _), fun h => absurd h (Nat.lt_irrefl 0)⟩ ?_ (fun σ' H' z => ?_)⟩
    · rintro i σ' H' hi ⟨L, cs, C, τ, θ, now, x4, x5, x6, x7, x8, x9, x10, rfl, S, hl, hc, R, th, _⟩
      refine ⟨_, rfl, lr, rfl, ⟨_, SqL.of (S _ _ hR.at_)⟩, for_it (walk_list (K := K) (a := lr) (xs := bs.map V.ref)) (fun j σ' H' => ∃ (L : Str → Int) (cs : List Str) (C τ θ : Str → Nat) (now : Nat) (u : V) (x6 x7 x8 x9 x10 : Option V), σ' = [some (.ref ds), some (.ref lr), some (.ref dl), some (.ref dc), some (.int (0 + (i : Int))), some u, x6, x7, x8, x9, x10] ∧ Same H H' ∧ H' dl = some (.dK (kvF ns fun n => .int (L n))) ∧ H' dc = some (.dK (kvF cs fun n => .ref (bs.getD (C n) 0))) ∧ RS ns rows L0 i j L cs C τ θ now ∧ ((u = .non ∧ ∀ v, θ v ≤ i) ∨ ∃ r, u = .str r ∧ θ r = i + 1))
        ⟨L, cs, C, τ, θ, now, .non, _, _, _, _, _, rfl, S, hl, hc, R, .inl ⟨rfl, th⟩⟩ (fun j σ' H' _ ⟨_, _, _, _, _, _, _, _, _, _, _, _, _, z, _⟩ => SqL.of (z _ _ hR.at_)) ?_ (fun σ' H' z => ?_)⟩
      · clear hl hc R th S hdl hdc s2
        rintro j x σ' H' H'' hj ⟨L, cs, C, τ, θ, now, u, x6, x7, x8, x9, x10, rfl, S, hl, hc, R, hu⟩ ⟨rfl, hx⟩
        rw [List.length_map, hR.len] at hj
        have hb : bs[j]? = some (bs.getD j 0) := by rw [List.getD_eq_getElem?_getD, List.getElem?_eq_getElem (by rw [hR.len]; exact hj)]; rfl
        rw [List.getElem?_map, hb] at hx
        cases hx
        have hq := stUp (hR.row j hj) S
        obtain ⟨m1, m2⟩ := hin _ (List.getElem_mem hj)
        have g1 := (kvF_val (f := fun n => V.int (L n)) nd m1).symm
        have g2 := (kvF_val (f := fun n => V.int (L n)) nd m2).symm
        refine ⟨_, rfl, _, _, rfl, hq, rfl, _, _, rfl, _, _, rfl, _, _, rfl, _, _, rfl, rfl, ?_⟩
        dsimp only [List.set]
        refine ⟨_, rfl, _, rfl, dl, .int (L rows[j].1), rfl, .inl ⟨_, .inr rows[j].1, .inl hl, rfl, g1⟩, _, rfl, _, rfl, dl, .int (L rows[j].2.1), rfl, .inl ⟨_, .inr rows[j].2.1, .inl hl, rfl, g2⟩, _, rfl, _, _, rfl, rfl, _, _, rfl, rfl, _, rfl, ite2 (fun c1 => ?_) (fun c1 => ?_)⟩
        · have c1 : L rows[j].1 < L rows[j].2.1 - rows[j].2.2 := of_decide_eq_true c1
          refine ⟨_, rfl, _, rfl, dl, .int (L rows[j].2.1), rfl, .inl ⟨_, .inr rows[j].2.1, .inl hl, rfl, g2⟩, _, rfl, _, _, rfl, rfl, _, rfl, _, rfl, dl, _, rfl, .inl ⟨_, .inr rows[j].1, hl, rfl, by rw [kvF_len]; exact Nat.lt_of_le_of_lt nl (by decide), rfl⟩, ?_⟩
          rw [putK_F m1]
          refine ⟨_, rfl, _, rfl, _, rfl, dc, _, rfl, .inl ⟨_, .inr rows[j].1, by rw [upd_ne dne.symm]; exact hc, rfl, by rw [kvF_len]; exact Nat.lt_of_le_of_lt (Nat.le_trans (nodup_le R.cd R.cn) nl) (by decide), rfl⟩, ?_⟩
          have R2 := R.rise hj m1 c1
          rw [putK_C (g := fun i => V.ref (bs.getD i 0)) (C := C) (i := j)]
          refine ⟨_, rfl, ?_⟩
          refine ⟨_, _, _, _, _, _, .str rows[j].1, _, _, _, _, _, rfl, fun b o e => by rw [upd_ne (ne_of_none e ndc0), upd_ne (ne_of_none e ndl)]; exact S _ _ e, ?_, upd_same, R2, .inr ⟨_, rfl, setF_same⟩⟩
          rw [upd_ne dne, upd_same]
          congr 2
          refine List.map_congr_left fun n _ => ?_
          show (Sum.inr n, if n = rows[j].1 then V.int (L rows[j].2.1 - rows[j].2.2) else V.int (L n)) = (Sum.inr n, V.int (setF L rows[j].1 (L rows[j].2.1 - rows[j].2.2) n))
          unfold setF
          split <;> rfl
        · have c1 : ¬ L rows[j].1 < L rows[j].2.1 - rows[j].2.2 := fun z => c1 (decide_eq_true z)
          exact ⟨L, cs, C, τ, θ, now, u, _, _, _, _, _, rfl, S, hl, hc, R.skip hj c1, hu⟩
      · obtain ⟨L, cs, C, τ, θ, now, u, x6, x7, x8, x9, x10, rfl, S, hl, hc, R, hu⟩ := z
        rw [List.length_map, hR.len] at R
        rcases hu with ⟨rfl, hz⟩ | ⟨r, rfl, hr2⟩
        · refine ⟨_, rfl, rfl, _, rfl, iteT ⟨_, rfl, by show 2 ≤ sizeLine; decide, fun t nt => ?_⟩⟩
          have s3 := Same.new nt (o := .tup [.ref dl, .non])
          refine k1 t dl L _ (S.trans s3) (S.free nt) ndl upd_same (s3 _ _ hl) R.ge (R.kept hz) fun M h0 hM => R.mn M h0 hM
        · refine ⟨_, rfl, rfl, _, rfl, iteF ?_⟩
          exact ⟨L, cs, C, τ, θ, now, _, _, _, _, _, _, _, rfl, S, hl, hc, R.turn, R.th, fun _ => ⟨R, r, rfl, hr2⟩⟩
    · obtain ⟨L, cs, C, τ, θ, now, x4, x5, x6, x7, x8, x9, x10, rfl, S, hl, hc, _, _, hz⟩ := z
      rw [kl] at hz
      obtain ⟨R, r, rfl, hr2⟩ := hz n0
      obtain ⟨w1, d, d0, dc2, w2⟩ := R.way (r := r) nd (by omega) (fun r m => (hin r m).2) (by omega)
      have cl : cs.length ≤ 64 := Nat.le_trans (nodup_le R.cd R.cn) nl
      refine ⟨_, rfl, _, rfl, r, dc, lr, bs, rows, nm, cs, C, d, rfl, hc, hR.up S, R.cd, cl, fun v m => ?_, w1, d0, by omega, w2, fun l is v s3 H'' s4 nl4 hl4 ne p hcs le => ⟨by show 2 ≤ sizeLine; decide, fun t nt => ?_⟩⟩
      · obtain ⟨a1, a2, a3, _⟩ := R.step1 m
        exact ⟨a1, a2, a3⟩
      · have s5 := Same.new nt (o := .tup [.non, .ref l])
        exact k2 t l is _ ((S.trans s4).trans s5) ((S.trans s4).free nt) (S.free nl4) upd_same (s5 _ _ hl4) (R.ring p ne hcs) le
end
end K5
set_option Elab.async false
set_option linter.all false
set_option maxRecDepth 100000
set_option maxHeartbeats 4000000
namespace K5
open PySem L2
local macro_rules | `(tactic| walk_at "rd1") => `(tactic| first
  | refine ⟨_, _, rfl, rfl, ?_⟩
  | refine ⟨_, _, _, _, rfl, rfl, SqL.of (by assumption), rfl, ?_⟩
  | refine ⟨_, _, _, _, rfl, rfl, (by assumption), rfl, ?_⟩
  | refine .inl ⟨_, rfl, ?_⟩
  | refine ⟨_, rfl, ?_⟩
  | refine ⟨(by unfold CMul; omega), ?_⟩
  | refine ⟨(by unfold CPow; omega), ?_⟩
  | refine ⟨(by (try dsimp only); omega), ?_⟩
  | refine ⟨(by unfold CDiv; omega), ?_⟩
  | fail "rd1")
local macro_rules | `(tactic| walk_at "rd") => `(tactic| repeat' (walk_at "rd1"))
open Own
section
variable {P : Program} {w : World} {K : PySem.W.Frag} {mg : Str → Option Value} {base : Heap} {A : Ad}
def wdsOf (ys : List Str) (nw no : Nat) : List Wd := (ys.map Wd.wait ++ (List.range nw).map Wd.wish) ++ (List.range no).map Wd.order
def rowsOf (ys : List Str) (hk : Str → Str) (W : Str → List Str) (lo hi : Str → Int) (ws : List (Mo × Mo × Int)) (ps : List (Str × Str)) : List Rw := (wdsOf ys ws.length ps.length).map (Wd.row hk W lo hi ws ps)
theorem int0 (m : Nat) : (0 : Int) + (m : Int) = (m : Int) := Int.zero_add _
def spAllRows (K : PySem.W.Frag) (CM : Addr) : Sp := fun vs H Q _ => ∃ (p dh : Addr) (o : V) (ys : List Str) (hk : Str → Str) (W : Str → List Str) (lo hi : Str → Int) (ws : List (Mo × Mo × Int)) (es : List PyData) (ps : List (Str × Str)), vs = [.ref p, .ref dh, o] ∧ H dh = some (.dK (kvR (rowsF ys hk))) ∧ MlAt K CM H p ys lo hi (ws.map wiD) es ∧ OrdV K H o ps ∧
  (∀ w ∈ ws, w.1.on ys ∧ w.2.1.on ys) ∧ OrdOk ys ps ∧ ys.Nodup ∧ ys.length < 64 ∧ (∀ n ∈ ys, PyData.strOk n = true) ∧ WaysOk ys hk W ∧ ws.length ≤ 100 ∧ ps.length ≤ 100 ∧
  ∀ l bs nm H', Same H H' → H l = none → RvL K H' l bs (rowsOf ys hk W lo hi ws ps) nm → (∀ i wd, (wdsOf ys ws.length ps.length)[i]? = some wd → ∃ b, nm i = .ref b ∧ SqT K H' b [.str wd.nm, wd.val]) → Q (.ref l) H'
theorem ok_allrows (T : Txt K mg A) : FnOk P w K mg base CX0 7 A.a_all_rows A.d_all_rows P_all_rows (spAllRows K A.a_Meal) := by
  have G_found_row : FnOk P w K mg base CX0 6 A.a_found_row A.d_found_row P_found_row (spFoundRow K A.a_Meal) := ok_foundrow T
  have G_Meal_wishes : FnOk P w K mg base CX0 1 A.a_Meal_wishes A.d_Meal_wishes P_Meal_wishes (spMWishes K A.a_Meal) := ok_mwishes T
  refine T.f_all_rows.ok sc_all_rows (fun vs H Q E h => ?_) (fun cdv A' outer s H vs Q E hr h => ?_)
  · obtain ⟨p, dh, o, ys, hk, W, lo, hi, ws, es, ps, rfl, _⟩ := h
    rfl
  · obtain ⟨p, dh, o, ys, hk, W, lo, hi, ws, es, ps, rfl, hh, M, hO, hon, hOk, nd, hl, ok, hW, wl, pl, k⟩ := h
    refine ⟨_, (pss_cons (ps_lock (ps_setLc (i := 3) (own := [("name", 4)]) (g := gName 4)  (by rfl) sc_all_rows.nd rfl rfl (sw_true rfl rfl rfl (by decide +kernel)) (pi_keys (pv 1)) (blkOk_by (N := N_all_rows) (sc := defScope s_all_rows) (by decide +kernel)) (fun _ _ _ _ _ => pg_name (i := 4) sc_all_rows.nd rfl (Or.inl rfl)) (fun _ _ _ _ _ => pts_nil) (fun _ _ _ _ _ => (pe_tup (pa_cons pe_str (pa_cons (pv 4) pa_nil))))))
 (pss_cons (ps_set (i := 3) sc_all_rows.nd rfl (Or.inl rfl) (pe_op op_cat (pv 3) (pe_lc (own := [("index", 5)]) (g := gName 5) (by rfl) sc_all_rows.nd (pi_range1 (by rfl) T.range (pa_cons (pe_callB call_len_seq (by rfl) T.len PySem.boot_len (pa_cons (pe_meth0 (pv 0) T.cl_M T.m_wishes G_Meal_wishes (hr.mono (by omega)) T.b_Meal_wishes .nil pass0) pa_nil)) pa_nil)) (blkOk_by (N := N_all_rows) (sc := defScope s_all_rows) (by decide +kernel)) (fun _ _ _ _ _ => pg_name (i := 5) sc_all_rows.nd rfl (Or.inl rfl)) (fun _ _ _ _ _ => pts_nil) (fun _ _ _ _ _ => (pe_tup (pa_cons pe_str (pa_cons (pv 5) pa_nil)))))))
 (pss_cons (ps_set (i := 3) sc_all_rows.nd rfl (Or.inl rfl) (pe_op op_cat (pv 3) (pe_lc (own := [("index", 5)]) (g := gName 5) (by rfl) sc_all_rows.nd (pi_range1 (by rfl) T.range (pa_cons (pe_callB call_len_seq (by rfl) T.len PySem.boot_len (pa_cons (pv 2) pa_nil)) pa_nil)) (blkOk_by (N := N_all_rows) (sc := defScope s_all_rows) (by decide +kernel)) (fun _ _ _ _ _ => pg_name (i := 5) sc_all_rows.nd rfl (Or.inl rfl)) (fun _ _ _ _ _ => pts_nil) (fun _ _ _ _ _ => (pe_tup (pa_cons pe_str (pa_cons (pv 5) pa_nil)))))))
 (pss_one (ps_ret (pe_lc (own := [("name", 4)]) (g := gName 4) (by rfl) sc_all_rows.nd (pi_list (pv 3)) (blkOk_by (N := N_all_rows) (sc := defScope s_all_rows) (by decide +kernel)) (fun _ _ _ _ _ => pg_name (i := 4) sc_all_rows.nd rfl (Or.inl rfl)) (fun _ _ _ _ _ => pts_nil) (fun _ _ _ _ _ => (pe_op (catTOf (K := K) rfl) (pe_call G_found_row (hr.mono (by omega)) (by rfl) T.g_found_row T.f_found_row.kp T.b_found_row .nil pass0 (pa_cons (pv 4) (pa_cons (pv 1) (pa_cons (pv 0) (pa_cons (pv 2) pa_nil))))) (pe_tup (pa_cons (pv 4) pa_nil)))))))))), ?_⟩
    have hh1 := hh
    rw [kvR_F] at hh1
    refine ⟨dh, _, hh1, trivial, fun od => ?_⟩
    refine ⟨_, rfl, dh, od, rfl, .inl ⟨_, upd_same, fun D nD => lc_it walk_keys (fun m H' => Same (upd H dh (.frz od (.dK (kvF ys fun n => .str (hk n))))) H' ∧ WdL K H' D ((ys.take m).map .wait))
      ⟨Same.new nD, [], upd_same, .nil⟩ (fun m H' _ z => z.1 _ _ upd_same) ?_ (fun H17 z => ?_)⟩⟩
    · rintro m x H' H'' hm ⟨s17, gs, hD, hPP⟩ ⟨rfl, key, v, hkv, rfl⟩
      obtain ⟨hm, rfl, rfl⟩ := kvF_at hkv
      refine ⟨rfl, _, rfl, by show 2 ≤ sizeLine; decide, fun t nt => ?_⟩
      have s18 := Same.new nt (o := .tup [.str "wait", kV (.inr ys[m])])
      have q1 : SqT K (upd H'' t (.tup [.str "wait", kV (.inr ys[m])])) t [.str (Wd.wait ys[m]).nm, (Wd.wait ys[m]).val] := SqT.of upd_same
      refine cast_heap (b := upd H'' t (.tup [.str "wait", kV (.inr ys[m])])) rfl ?_
      generalize upd H'' t (.tup [.str "wait", kV (.inr ys[m])]) = H18 at s18 q1 ⊢
      have hD18 := s18 _ _ hD
      have pl : gs.length = m := by rw [hPP.length, List.length_map, List.length_take]; omega
      have e1 : ys.take (m + 1) = ys.take m ++ [ys[m]] := by rw [List.take_succ, List.getElem?_eq_getElem hm]; rfl
      refine ⟨_, hD18, by rw [List.length_map, pl]; exact Nat.lt_of_lt_of_le (show m < 65 by omega) (by decide), fun b u e => by rw [upd_ne (ne_of_none e nD)]; exact s18 _ _ (s17 _ _ e), ?_⟩
      rw [e1, List.map_append]
      exact WdL.snoc hD18 (paired_imp (fun _ _ z => stUp z s18) hPP) q1
    obtain ⟨s17, gs, hD, hPP⟩ := z
    rw [kvF_len, List.take_length] at hPP
    have hgf := s17 _ _ (upd_same (H := H) (a := dh) (o := .frz od (.dK (kvF ys fun n => .str (hk n)))))
    refine ⟨hgf, ?_⟩
    have nF : NoTup (.frz od (.dK (kvF ys fun n => V.str (hk n)))) := ⟨fun _ z => (nomatch z), fun _ _ z => (nomatch z)⟩
    have Dg : D ≠ dh := fun e => by rw [e, upd_same] at nD; cases nD
    have s18 : Same H (upd H17 dh (.dK (kvF ys fun n => .str (hk n)))) := fun x u e => by
      by_cases hx : x = dh
      · subst hx; rw [hh1] at e; cases e; exact upd_same
      · rw [upd_ne hx]; exact s17 _ _ (by rw [upd_ne hx]; exact e)
    have w1 : WdL K (upd H17 dh (.dK (kvF ys fun n => .str (hk n)))) D (ys.map .wait) := ⟨gs, by rw [upd_ne Dg]; exact hD, paired_imp (fun b (wd : Wd) z => tupSet (o := .dK (kvF ys fun n => .str (hk n))) hgf nF (xs := [.str wd.nm, wd.val]) z) hPP⟩
    generalize upd H17 dh (.dK (kvF ys fun n => .str (hk n))) = H18 at s18 w1 ⊢
    have pair : ∀ (H' : Hp) (t : Addr) (z : Str) (m : Nat), SqT K (upd H' t (.tup [.str z, .int (0 + (m : Int))])) t [.str z, .int (m : Nat)] := fun H' t z m => SqT.of (by rw [upd_same, int0])
    clear hPP hgf s17 hD nD nF Dg
    dsimp only [List.set]
    -- wishes
    have Mu := M.up s18
    obtain ⟨dx, qb, qw, qp, kvs, us0, uq, hp, _⟩ := id Mu.ex
    refine ⟨_, rfl, _, rfl, p, dx, _, rfl, hp, rfl, p, ys, lo, hi, _, es, rfl, Mu, fun lw us nlw hA => ?_⟩
    have ul := dpLen hA
    rw [List.length_map] at ul
    have s19 := Same.new nlw (o := .lst us)
    refine ⟨lw, us, rfl, .inl (SqL.of upd_same), _, rfl, by omega, by omega, fun D2 nD2 => ?_⟩
    have w1 := w1.up s19
    have s18 := s18.trans s19
    generalize upd H18 lw (.lst us) = G0 at w1 s18 nD2 ⊢
    clear hA hp Mu s19 nlw
    refine lc_it (walk_range (lo := 0) (n := us.length)) (fun m H' => Same G0 H' ∧ WdL K H' D2 ((List.range m).map .wish)) ⟨Same.new nD2, [], upd_same, .nil⟩ (fun _ _ _ _ => trivial) ?_ (fun H19 z => ?_)
    · rintro m x H' H'' hm ⟨s17, gs, hD, hPP⟩ ⟨rfl, rfl⟩
      refine ⟨rfl, _, rfl, by show 2 ≤ sizeLine; decide, fun t nt => ?_⟩
      have s18 := Same.new nt (o := .tup [.str "wish", .int (0 + (m : Int))])
      have q1 : SqT K (upd H'' t (.tup [.str "wish", .int (0 + (m : Int))])) t [.str (Wd.wish m).nm, (Wd.wish m).val] := pair _ _ _ _
      refine cast_heap (b := upd H'' t (.tup [.str "wish", .int (0 + (m : Int))])) rfl ?_
      generalize upd H'' t (.tup [.str "wish", .int (0 + (m : Int))]) = G at s18 q1 ⊢
      have hD18 := s18 _ _ hD
      have pl : gs.length = m := by rw [hPP.length, List.length_map, List.length_range]
      refine ⟨_, hD18, by rw [List.length_map, pl]; exact Nat.lt_of_lt_of_le (show m < 101 by omega) (by decide), fun b u e => by rw [upd_ne (ne_of_none e nD2)]; exact s18 _ _ (s17 _ _ e), ?_⟩
      rw [List.range_succ, List.map_append]
      exact WdL.snoc hD18 (paired_imp (fun _ _ z => stUp z s18) hPP) q1
    obtain ⟨s19, w2⟩ := z
    rw [ul] at w2
    refine WdL.cat (w1.up s19) w2 (by rw [List.length_map]; omega) (by rw [List.length_map, List.length_range]; omega) fun lw1 H20 s20 _ w3 => ?_
    have s20 := (s18.trans s19).trans s20
    clear w1 w2 s19 nD2 s18
    dsimp only [List.set]
    -- orders
    obtain ⟨oa, xs, rfl, hq, hPo⟩ := id (hO.up s20)
    have xl := hPo.length
    refine ⟨_, rfl, _, rfl, oa, xs, rfl, hq, _, rfl, by omega, by omega, fun D2 nD2 => lc_it (walk_range (lo := 0) (n := xs.length)) (fun m H' => Same H20 H' ∧ WdL K H' D2 ((List.range m).map .order)) ⟨Same.new nD2, [], upd_same, .nil⟩ (fun _ _ _ _ => trivial) ?_ (fun H21 z => ?_)⟩
    · rintro m x H' H'' hm ⟨s17, gs, hD, hPP⟩ ⟨rfl, rfl⟩
      refine ⟨rfl, _, rfl, by show 2 ≤ sizeLine; decide, fun t nt => ?_⟩
      have s18 := Same.new nt (o := .tup [.str "order", .int (0 + (m : Int))])
      have q1 : SqT K (upd H'' t (.tup [.str "order", .int (0 + (m : Int))])) t [.str (Wd.order m).nm, (Wd.order m).val] := pair _ _ _ _
      refine cast_heap (b := upd H'' t (.tup [.str "order", .int (0 + (m : Int))])) rfl ?_
      generalize upd H'' t (.tup [.str "order", .int (0 + (m : Int))]) = G at s18 q1 ⊢
      have hD18 := s18 _ _ hD
      have pl : gs.length = m := by rw [hPP.length, List.length_map, List.length_range]
      refine ⟨_, hD18, by rw [List.length_map, pl]; exact Nat.lt_of_lt_of_le (show m < 101 by omega) (by decide), fun b u e => by rw [upd_ne (ne_of_none e nD2)]; exact s18 _ _ (s17 _ _ e), ?_⟩
      rw [List.range_succ, List.map_append]
      exact WdL.snoc hD18 (paired_imp (fun _ _ z => stUp z s18) hPP) q1
    obtain ⟨s21, w4⟩ := z
    rw [xl] at w4
    refine WdL.cat (w3.up s21) w4 (by simp; omega) (by rw [List.length_map, List.length_range]; omega) fun lw2 H22 s22 _ w5 => ?_
    have S22 := (s20.trans s21).trans s22
    have mokw := Wd.all_on (ws := ws) (ps := ps) (rs := ys) (ys := ys) fun n m => m
    have w5 : WdL K H22 lw2 (wdsOf ys ws.length ps.length) := w5
    have mokw : ∀ wd ∈ wdsOf ys ws.length ps.length, wd.on ys ws ps := mokw
    have wdl : (wdsOf ys ws.length ps.length).length ≤ 264 := by unfold wdsOf; simp; omega
    unfold rowsOf at k
    generalize wdsOf ys ws.length ps.length = wds at w5 mokw k wdl
    clear s20 s21 s22 w3 w4 nD2 hq hPo xl pair
    dsimp only [List.set]
    -- the rows
    obtain ⟨bw, hw1, hw2⟩ := id w5
    have M22 := M.up S22
    have O22 := hO.up S22
    have hh22 := S22 _ _ hh
    have bwl := hw2.length
    refine ⟨_, rfl, lw2, rfl, ⟨_, SqL.of hw1⟩, fun D nD => lc_it (walk_list (K := K) (a := lw2) (xs := bw.map V.ref)) (fun m H' => Same H22 H' ∧ ∃ bs : List Addr, H' D = some (.lst (bs.map V.ref)) ∧ bs.length = m ∧ ∀ j (hj : j < m) (hj2 : j < wds.length), SqT K H' (bs.getD j 0) (tupR (wds[j].row hk W lo hi ws ps) ++ [.ref (bw.getD j 0)])) ⟨Same.new nD, [], upd_same, rfl, fun j hj => absurd hj (Nat.not_lt_zero _)⟩ (fun m H' _ z => SqL.of (z.1 _ _ hw1)) ?_ (fun H23 z => ?_)⟩
    · rintro m x H' H'' hm ⟨s23, bs, hD, bl, hB⟩ ⟨rfl, hx⟩
      rw [List.length_map] at hm
      have hb : bw[m]? = some (bw.getD m 0) := by rw [List.getD_eq_getElem?_getD, List.getElem?_eq_getElem hm]; rfl
      rw [List.getElem?_map, hb] at hx
      cases hx
      obtain ⟨wd, hwd1, hwd2⟩ := paired_at hw2 hb
      have hm2 : m < wds.length := by omega
      rw [List.getElem?_eq_getElem hm2] at hwd1
      cases hwd1
      refine ⟨rfl, _, rfl, _, rfl, _, rfl, _, rfl, .ref (bw.getD m 0), dh, p, .ref oa, ys, hk, W, lo, hi, ws, es, ps, rfl, s23 _ _ hh22, M22.up s23, O22.up s23, hon, hOk, nd, hl, ok, hW, .inl ⟨wds[m], ⟨_, rfl, .inr (stUp hwd2 s23)⟩, mokw _ (List.getElem_mem hm2), fun t H3 s3 nt ht => ?_⟩⟩
      refine ⟨_, rfl, by show 1 ≤ sizeLine; decide, fun t1 nt1 => ?_⟩
      have s4 := Same.new nt1 (o := .tup [.ref (bw.getD m 0)])
      refine ⟨t, t1, _, _, rfl, rfl, SqT.of (s4 _ _ ht), SqT.of upd_same, fun z => (nomatch z), by show 4 ≤ sizeLine; decide, fun z => (nomatch z), fun _ t2 nt2 => ?_⟩
      have s5 := (s3.trans s4).trans (Same.new nt2 (o := .tup (tupR (wds[m].row hk W lo hi ws ps) ++ [.ref (bw.getD m 0)])))
      have q5 := upd_same (H := upd H3 t1 (.tup [.ref (bw.getD m 0)])) (a := t2) (o := .tup (tupR (wds[m].row hk W lo hi ws ps) ++ [.ref (bw.getD m 0)]))
      generalize upd (upd H3 t1 (.tup [.ref (bw.getD m 0)])) t2 (.tup (tupR (wds[m].row hk W lo hi ws ps) ++ [.ref (bw.getD m 0)])) = H5 at s5 q5 ⊢
      have hD5 := s5 _ _ hD
      refine ⟨_, hD5, by rw [List.length_map, bl]; exact Nat.lt_of_lt_of_le (show m < 265 by omega) (by decide), fun b u e => by rw [upd_ne (ne_of_none e nD)]; exact s5 _ _ (s23 _ _ e), bs ++ [t2], by rw [upd_same, List.map_append]; rfl, by rw [List.length_append, List.length_singleton, bl], fun j hj hj2 => ?_⟩
      refine tupSet hD5 (noTup_lst _) ?_
      by_cases c : j < m
      · have : (bs ++ [t2]).getD j 0 = bs.getD j 0 := by rw [List.getD_eq_getElem?_getD, List.getD_eq_getElem?_getD, List.getElem?_append_left (by omega)]
        rw [this]
        exact stUp (hB j c hj2) s5
      · obtain rfl : j = m := by omega
        have : (bs ++ [t2]).getD j 0 = t2 := by rw [List.getD_eq_getElem?_getD, List.getElem?_append_right (by omega), bl, Nat.sub_self]; rfl
        rw [this]
        exact SqT.of q5
    obtain ⟨s23, bs, hD, bl, hB⟩ := z
    rw [List.length_map] at bl
    have hB : ∀ j (hj2 : j < wds.length), SqT K H23 (bs.getD j 0) (tupR (wds[j].row hk W lo hi ws ps) ++ [.ref (bw.getD j 0)]) := fun j hj2 => hB j (by rw [List.length_map]; omega) hj2
    refine k D bs (fun i => .ref (bw.getD i 0)) H23 (S22.trans s23) (S22.free nD) ⟨hD, by rw [List.length_map]; omega, fun i hi2 => ?_⟩ fun i wd e => ?_
    · rw [List.length_map] at hi2
      have := hB i hi2
      rw [List.getElem_map]
      exact this
    · have hi2 := (List.getElem?_eq_some_iff.mp e).1
      have hb : bw[i]? = some (bw.getD i 0) := by rw [List.getD_eq_getElem?_getD, List.getElem?_eq_getElem (by omega)]; rfl
      obtain ⟨wd2, h1, h2⟩ := paired_at hw2 hb
      rw [e] at h1
      cases h1
      exact ⟨_, rfl, stUp h2 s23⟩
abbrev clkL (ys : List Str) : List Str := "clock" :: ys
theorem rowsOf_in {ys : List Str} {hk : Str → Str} {W : Str → List Str} {lo hi : Str → Int} {ws : List (Mo × Mo × Int)} {ps : List (Str × Str)} (hh : ∀ n ∈ ys, hk n = "clock" ∨ hk n ∈ ys) (hon : ∀ w ∈ ws, w.1.on ys ∧ w.2.1.on ys) (hOk : OrdOk ys ps) : ∀ r ∈ rowsOf ys hk W lo hi ws ps, r.1 ∈ clkL ys ∧ r.2.1 ∈ clkL ys := fun r m => by
  have on : ∀ o : Mo, o.on ys → dishM o ∈ clkL ys := fun o h => by
    cases o with
    | clock => exact .head _
    | edge b n => exact .tail _ h
  unfold rowsOf at m
  obtain ⟨wd, m1, rfl⟩ := List.mem_map.mp m
  have won := Wd.all_on (ws := ws) (ps := ps) (rs := ys) (ys := ys) (fun n m => m) wd m1
  cases wd with
  | wait n =>
    have won : n ∈ ys := won
    refine ⟨.tail _ won, ?_⟩
    show hk n ∈ clkL ys
    exact (hh n won).elim (fun e => by rw [e]; exact .head _) fun q => .tail _ q
  | wish k =>
    have won : k < ws.length := won
    obtain ⟨a, b⟩ := hon _ (List.getElem_mem won)
    show dishM (ws.getD k _).1 ∈ _ ∧ dishM (ws.getD k _).2.1 ∈ _
    rw [getD_of won]
    exact ⟨on _ a, on _ b⟩
  | order k =>
    have won : k < ps.length := won
    obtain ⟨a, b, _⟩ := hOk _ (List.getElem_mem won)
    show dishM (ordW (ps.getD k _)).1 ∈ _ ∧ dishM (ordW (ps.getD k _)).2.1 ∈ _
    rw [getD_of won]
    exact ⟨.tail _ b, .tail _ a⟩
theorem hk_in {rk : Str → Nat} {ys : List Str} {hk : Str → Str} (h : ROk rk (rowsF ys hk)) : ∀ n ∈ ys, hk n = "clock" ∨ hk n ∈ ys := fun n m => by
  have := h.acy n (hk n) (List.mem_map.mpr ⟨n, m, rfl⟩)
  rw [ksR_F] at this
  exact this.imp id fun q => q.1
def spLeast (K : PySem.W.Frag) (CM CH : Addr) : Sp := fun vs H Q _ => ∃ (p b : Addr) (o : V) (ys : List Str) (hk : Str → Str) (W : Str → List Str) (lo hi : Str → Int) (ws : List (Mo × Mo × Int)) (es : List PyData) (ps : List (Str × Str)), vs = [.ref p, .ref b, o] ∧ MH K CM CH H p b o ys hk W lo hi ws es ps ∧ ws.length ≤ 100 ∧ ps.length ≤ 100 ∧
  (∀ t dl L H', Same H H' → H t = none → H dl = none → H' t = some (.tup [.ref dl, .non]) → H' dl = some (.dK (kvF (clkL ys) fun n => .int (L n))) → (∀ v, 0 ≤ L v) → KeptR (rowsOf ys hk W lo hi ws ps) L → (∀ M : Str → Int, (∀ v, 0 ≤ M v) → KeptR (rowsOf ys hk W lo hi ws ps) M → ∀ v, L v ≤ M v) → Q (.ref t) H') ∧
  (∀ t lq bs lr nm is H', Same H H' → H t = none → H lq = none → H' t = some (.tup [.non, .ref lq]) → H' lq = some (.lst (refsR bs is)) → RvL K H' lr bs (rowsOf ys hk W lo hi ws ps) nm → (∀ i wd, (wdsOf ys ws.length ps.length)[i]? = some wd → ∃ b, nm i = .ref b ∧ SqT K H' b [.str wd.nm, wd.val]) → RingI (rowsOf ys hk W lo hi ws ps) is → is.length ≤ 64 → Q (.ref t) H')
theorem ok_least (T : Txt K mg A) : FnOk P w K mg base CX0 8 A.a_least_sums A.d_least_sums P_least_sums (spLeast K A.a_Meal A.a_Hanging) := by
  have G_check_same : FnOk P w K mg base CX0 6 A.a_check_same A.d_check_same P_check_same (spSameHD K A.a_Meal A.a_Hanging) := ok_chksameH T
  have G_check_orders : FnOk P w K mg base CX0 3 A.a_check_orders A.d_check_orders P_check_orders (spChkOrd K) := ok_chkord T
  have G_all_rows : FnOk P w K mg base CX0 7 A.a_all_rows A.d_all_rows P_all_rows (spAllRows K A.a_Meal) := ok_allrows T
  have G_raised : FnOk P w K mg base CX0 2 A.a_raised A.d_raised P_raised (spRaised K) := ok_raised T
  have G_Meal_dishes : FnOk P w K mg base CX0 1 A.a_Meal_dishes A.d_Meal_dishes P_Meal_dishes (spMDishes K A.a_Meal) := ok_mdishes T
  have G_Hanging_rows : FnOk P w K mg base CX0 1 A.a_Hanging_rows A.d_Hanging_rows P_Hanging_rows (spHRows A.a_Hanging) := ok_hrows T
  refine T.f_least_sums.ok sc_least_sums (fun vs H Q E h => ?_) (fun cdv A' outer s H vs Q E hr h => ?_)
  · obtain ⟨p, b, o, ys, hk, W, lo, hi, ws, es, ps, rfl, _⟩ := h
    rfl
  · obtain ⟨p, b, o, ys, hk, W, lo, hi, ws, es, ps, rfl, B, wl, pl, k1, k2⟩ := h
    refine ⟨_, (pss_cons (ps_expr (pe_call G_check_same (hr.mono (by omega)) (by rfl) T.g_check_same T.f_check_same.kp T.b_check_same .nil pass0 (pa_cons (pv 0) (pa_cons (pv 1) pa_nil))))
 (pss_cons (ps_expr (pe_call G_check_orders (hr.mono (by omega)) (by rfl) T.g_check_orders T.f_check_orders.kp T.b_check_orders .nil pass0 (pa_cons (pv 2) (pa_cons (pe_meth0 (pv 0) T.cl_M T.m_dishes G_Meal_dishes (hr.mono (by omega)) T.b_Meal_dishes .nil pass0) pa_nil))))
 (pss_cons (ps_set (i := 3) sc_least_sums.nd rfl (Or.inl rfl) (pe_meth0 (pv 1) T.cl T.m_rows G_Hanging_rows (hr.mono (by omega)) T.b_Hanging_rows .nil pass0))
 (pss_one (ps_ret (pe_call G_raised (hr.mono (by omega)) (by rfl) T.g_raised T.f_raised.kp T.b_raised .nil pass0 (pa_cons (pe_dc (own := [("name", 4)]) (g := gName 4) (by rfl) sc_least_sums.nd (pi_list (pe_lst (pa_cons (pe_glob (v := .str "clock") (by rfl) T.g_CLOCK.choose_spec ⟨_, rfl⟩) (Own.pa_starD rfl (pv 3) pa_nil)))) (blkOk_by (N := N_least_sums) (sc := defScope s_least_sums) (by decide +kernel)) (fun _ _ _ _ _ => pg_name (i := 4) sc_least_sums.nd rfl (Or.inl rfl)) (fun _ _ _ _ _ => pts_nil) (fun _ _ _ _ _ => (pv 4)) (fun _ _ _ _ _ => pe_int)) (pa_cons (pe_call G_all_rows (hr.mono (by omega)) (by rfl) T.g_all_rows T.f_all_rows.kp T.b_all_rows .nil pass0 (pa_cons (pv 0) (pa_cons (pv 3) (pa_cons (pv 2) pa_nil)))) pa_nil)))))))), ?_⟩
    refine ⟨_, rfl, _, rfl, p, b, ys, ys, lo, hi, _, es, hk, rfl, B.m, B.h, B.len, B.sok, B.sok, rfl, fun H1 s1 => ?_⟩
    have B1 := B.up s1
    obtain ⟨dx, qb, qw, qp, kvs, us, uq, hp, _⟩ := id B1.m.ex
    refine ⟨_, rfl, _, rfl, p, dx, _, rfl, hp, rfl, p, ys, lo, hi, _, es, rfl, B1.m, fun l H2 kv nl s2 hl hP => ?_⟩
    have B2 := B1.up s2
    refine ⟨o, l, ps, kv, ys, rfl, B2.o, .inl hl, hP.keys, B.ok, fun H3 s3 => ?_⟩
    have B3 := B2.up s3
    have S3 := (s1.trans s2).trans s3
    clear hl hP nl hp B1 B2
    obtain ⟨q, dy, hb, hg⟩ := hg_at B3.h
    refine ⟨_, rfl, b, dy, _, rfl, hb, rfl, b, q, _, rfl, hg, fun l2 nl2 => ?_⟩
    have s4 := Same.new nl2 (o := .dK (kvR (rowsF ys hk)))
    have hl2 := upd_same (H := H3) (a := l2) (o := .dK (kvR (rowsF ys hk)))
    have B4 := B3.up s4
    have S4 := S3.trans s4
    generalize upd H3 l2 (.dK (kvR (rowsF ys hk))) = H4 at hl2 B4 S4 ⊢
    clear B3 hb hg s4 nl2 S3 s1 s2 s3
    dsimp only [List.set]
    have hl3 := hl2
    rw [kvR_F] at hl3
    have ek : (V.str "clock" :: (((kvF ys fun n => V.str (hk n)).map fun kv => kV kv.1) ++ [])) = (clkL ys).map V.str := by rw [keysV (kvF_keys _ _), List.append_nil]; rfl
    refine ⟨_, rfl, l2, _, rfl, .inl hl3, ?_, fun pn npn => ?_⟩
    · rw [List.append_nil, List.length_cons, List.length_map, kvF_len]
      exact Nat.le_trans (show ys.length + 1 ≤ 64 by have := B4.len; omega) (by decide)
    have s5 := Same.new npn (o := .lst (V.str "clock" :: (((kvF ys fun n => V.str (hk n)).map fun kv => kV kv.1) ++ [])))
    have hn : upd H4 pn (.lst (V.str "clock" :: (((kvF ys fun n => V.str (hk n)).map fun kv => kV kv.1) ++ []))) pn = some (.lst ((clkL ys).map V.str)) := by rw [upd_same, ek]
    refine cast_heap (b := upd H4 pn (.lst (V.str "clock" :: (((kvF ys fun n => V.str (hk n)).map fun kv => kV kv.1) ++ [])))) rfl ?_
    generalize upd H4 pn (.lst (V.str "clock" :: (((kvF ys fun n => V.str (hk n)).map fun kv => kV kv.1) ++ []))) = H5 at s5 hn ⊢
    have nclk : ("clock" : Str) ∉ ys := fun m => by
      obtain ⟨rk, hO⟩ := B4.O
      exact (hO.nm "clock" (by rw [ksR_F]; exact m)).1.noclock rfl
    have cN : (clkL ys).Nodup := List.nodup_cons.mpr ⟨nclk, B4.nd⟩
    have cl : (clkL ys).length ≤ 64 := by have := B4.len; rw [List.length_cons]; omega
    refine ⟨pn, rfl, ⟨_, SqL.of hn⟩, fun D nD => fillD (walk_list (K := K) (a := pn) (xs := (clkL ys).map V.str)) (fun m H' => Same H5 H' ∧ H' D = some (.dK (kvF ((clkL ys).take m) fun _ => .int 0))) ⟨Same.new nD, upd_same⟩ (fun m H' _ z => SqL.of (z.1 _ _ hn)) ?_ (fun H6 z => ?_)⟩
    · rintro m x H' H'' hm ⟨s6, hD⟩ ⟨rfl, hx⟩
      obtain ⟨hm, rfl⟩ := str_at hx
      refine ⟨rfl, _, rfl, _, .inr (clkL ys)[m], rfl, hD, by rw [kvF_len, List.length_take]; exact Nat.lt_of_le_of_lt (show min m _ ≤ 64 by omega) (by decide), fun b u e => by rw [upd_ne (ne_of_none e nD)]; exact s6 _ _ e, ?_⟩
      have e1 : (clkL ys).take (m + 1) = (clkL ys).take m ++ [(clkL ys)[m]] := by rw [List.take_succ, List.getElem?_eq_getElem hm]; rfl
      rw [upd_same, e1, kvF_snoc, put_new]
      rw [kvF_keys]
      intro z
      obtain ⟨y, hy, e⟩ := List.mem_map.mp z
      exact not_in_take cN hm (by rw [← Sum.inr.inj e]; exact hy)
    obtain ⟨s6, hD⟩ := z
    rw [List.length_map, List.take_length] at hD
    have S6 := s5.trans s6
    have B6 := B4.up S6
    refine ⟨_, rfl, _, rfl, _, rfl, p, l2, o, ys, hk, W, lo, hi, ws, es, ps, rfl, S6 _ _ hl2, B6.m, B6.o, B.on, B.ok, B.nd, B.len, B.sok, B.W, wl, pl, fun lr bs nm H7 s7 nlr hR hN => ?_⟩
    obtain ⟨rk, hO⟩ := B.O
    have S7 := S4.trans (S6.trans s7)
    refine ⟨D, lr, clkL ys, fun _ => 0, bs, _, nm, rfl, s7 _ _ hD, cN, Nat.succ_pos _, cl, hR, rowsOf_in (hk_in hO) B.on B.ok, fun t dl L H8 s8 nt ndl ht hdl h0 hK hm => ?_, fun t lq is H8 s8 nt nlq ht hlq hI il => ?_⟩
    · exact k1 t dl L H8 (S7.trans s8) (S7.free nt) (S7.free ndl) ht hdl h0 hK hm
    · exact k2 t lq bs lr nm is H8 (S7.trans s8) (S7.free nt) (S7.free nlq) ht hlq (hR.up s8) (fun i wd e => by obtain ⟨b, e1, q⟩ := hN i wd e; exact ⟨b, e1, stUp q s8⟩) hI il
def spRing (K : PySem.W.Frag) (CM CH : Addr) : Sp := fun vs H Q _ => ∃ (p b : Addr) (o : V) (ys : List Str) (hk : Str → Str) (W : Str → List Str) (lo hi : Str → Int) (ws : List (Mo × Mo × Int)) (es : List PyData) (ps : List (Str × Str)), vs = [.ref p, .ref b, o] ∧ MH K CM CH H p b o ys hk W lo hi ws es ps ∧ ws.length ≤ 100 ∧ ps.length ≤ 100 ∧
  (∀ L H', Same H H' → (∀ v, 0 ≤ L v) → KeptR (rowsOf ys hk W lo hi ws ps) L → Q .non H') ∧
  (∀ l is H', Same H H' → H l = none → WdL K H' l (is.map fun i => (wdsOf ys ws.length ps.length).getD i (.wish 0)) → RingI (rowsOf ys hk W lo hi ws ps) is → is.length ≤ 64 → Q (.ref l) H')
theorem ok_ring (T : Txt K mg A) : FnOk P w K mg base CX0 9 A.a_ring A.d_ring P_ring (spRing K A.a_Meal A.a_Hanging) := by
  have G_least_sums : FnOk P w K mg base CX0 8 A.a_least_sums A.d_least_sums P_least_sums (spLeast K A.a_Meal A.a_Hanging) := ok_least T
  refine T.f_ring.ok sc_ring (fun vs H Q E h => ?_) (fun cdv A' outer s H vs Q E hr h => ?_)
  · obtain ⟨p, b, o, ys, hk, W, lo, hi, ws, es, ps, rfl, _⟩ := h
    rfl
  · obtain ⟨p, b, o, ys, hk, W, lo, hi, ws, es, ps, rfl, B, wl, pl, k1, k2⟩ := h
    refine ⟨_, (pss_cons (ps_asg (pe_call G_least_sums (hr.mono (by omega)) (by rfl) T.g_least_sums T.f_least_sums.kp T.b_least_sums .nil pass0 (pa_cons (pv 0) (pa_cons (pv 1) (pa_cons (pv 2) pa_nil)))) (pg_tup (by rfl) (pgs_cons (pg_name (i := 3) sc_ring.nd rfl (Or.inl rfl)) (pgs_cons (pg_name (i := 4) sc_ring.nd rfl (Or.inl rfl)) pgs_nil))))
 (pss_one (ps_ret (pe_ifExp (pt_cmpR op_isN (pv 4) pe_non (nomark _)) pe_non (pe_lc (own := [("row", 5)]) (g := gName 5) (by rfl) sc_ring.nd (pi_list (pv 4)) (blkOk_by (N := N_ring) (sc := defScope s_ring) (by decide +kernel)) (fun _ _ _ _ _ => pg_name (i := 5) sc_ring.nd rfl (Or.inl rfl)) (fun _ _ _ _ _ => pts_nil) (fun _ _ _ _ _ => (pe_ix (Own.ixTupOf (K := K) rfl) (pv 5) pe_int (fun _ _ => rfl)))))))), ?_⟩
    refine ⟨_, rfl, _, rfl, _, rfl, p, b, o, ys, hk, W, lo, hi, ws, es, ps, rfl, B, wl, pl, fun t dl L H1 s1 nt ndl ht hdl h0 hK hm => ?_, fun t lq bs lr nm is H1 s1 nt nlq ht hlq hR hN hI il => ?_⟩
    · refine ⟨t, _, rfl, SqT.of ht, rfl, _, _, rfl, _, _, rfl, rfl, ?_⟩
      exact ⟨_, rfl, rfl, _, rfl, iteT (k1 L _ s1 h0 hK)⟩
    · refine ⟨t, _, rfl, SqT.of ht, rfl, _, _, rfl, _, _, rfl, rfl, ?_⟩
      refine ⟨_, rfl, rfl, _, rfl, iteF ?_⟩
      have hlt : ∀ i ∈ is, i < (wdsOf ys ws.length ps.length).length := fun i m => by
        obtain ⟨_, v, s, pth, _⟩ := hI
        have := pth.lt i m
        unfold rowsOf at this
        rwa [List.length_map] at this
      refine ⟨_, rfl, lq, rfl, ⟨_, SqL.of hlq⟩, fun D nD => lc_it (walk_list (K := K) (a := lq) (xs := refsR bs is)) (fun m H' => Same H1 H' ∧ WdL K H' D ((is.take m).map fun i => (wdsOf ys ws.length ps.length).getD i (.wish 0))) ⟨Same.new nD, [], upd_same, .nil⟩ (fun m H' _ z => SqL.of (z.1 _ _ hlq)) ?_ (fun H2 z => ?_)⟩
      · rintro m x H' H'' hm ⟨s2, gs, hD, hPP⟩ ⟨rfl, hx⟩
        unfold refsR at hm hx
        rw [List.length_map] at hm
        rw [List.getElem?_map, List.getElem?_eq_getElem hm] at hx
        cases hx
        have hl := hlt _ (List.getElem_mem hm)
        obtain ⟨b0, e0, q0⟩ := hN is[m] _ (List.getElem?_eq_getElem hl)
        have hq := stUp (hR.row is[m] (by unfold rowsOf; rw [List.length_map]; exact hl)) s2
        rw [e0] at hq
        have hgl : gs.length = m := by rw [hPP.length, List.length_map, List.length_take]; omega
        have e1 : is.take (m + 1) = is.take m ++ [is[m]] := by rw [List.take_succ, List.getElem?_eq_getElem hm]; rfl
        refine ⟨rfl, _, rfl, _, _, _, _, rfl, rfl, hq, rfl, _, hD, by rw [List.length_map, hgl]; exact Nat.lt_of_lt_of_le (show m < 65 by omega) (by decide), fun b u e => by rw [upd_ne (ne_of_none e nD)]; exact s2 _ _ e, ?_⟩
        rw [e1, List.map_append]
        refine WdL.snoc hD hPP ?_
        show SqT K H'' b0 [.str ((wdsOf ys ws.length ps.length).getD is[m] (.wish 0)).nm, ((wdsOf ys ws.length ps.length).getD is[m] (.wish 0)).val]
        rw [getD_of hl]
        exact stUp q0 s2
      · obtain ⟨s2, hW2⟩ := z
        unfold refsR at hW2
        rw [List.length_map, List.take_length] at hW2
        exact k2 D is H2 (s1.trans s2) (s1.free nD) hW2 hI il
end
end K5
set_option Elab.async false
set_option linter.all false
set_option maxRecDepth 100000
set_option maxHeartbeats 4000000
namespace K5
open PySem L2
local macro_rules | `(tactic| walk_at "rd1") => `(tactic| first
  | refine ⟨_, _, rfl, rfl, ?_⟩
  | refine ⟨_, _, _, _, rfl, rfl, SqL.of (by assumption), rfl, ?_⟩
  | refine ⟨_, _, _, _, rfl, rfl, (by assumption), rfl, ?_⟩
  | refine .inl ⟨_, rfl, ?_⟩
  | refine ⟨_, rfl, ?_⟩
  | refine ⟨(by unfold CMul; omega), ?_⟩
  | refine ⟨(by unfold CPow; omega), ?_⟩
  | refine ⟨(by (try dsimp only); omega), ?_⟩
  | refine ⟨(by unfold CDiv; omega), ?_⟩
  | fail "rd1")
local macro_rules | `(tactic| walk_at "rd") => `(tactic| repeat' (walk_at "rd1"))
open Own
section
variable {P : Program} {w : World} {K : PySem.W.Frag} {mg : Str → Option Value} {base : Heap} {A : Ad}
theorem hgf_sta {C : Addr} {H : Hp} {b st c : Addr} {n : Int} {zs : List Str} {hk : Str → Str} (S : Sta H st c n) (B : HgF C H b zs hk) : HgF C (er H st) b zs hk := by
  obtain ⟨dy, qh, h1, h2⟩ := hgF B
  exact ⟨dy, qh, er_sta S h1 (fun _ z => nomatch z), er_sta S h2 (fun _ z => nomatch z)⟩
theorem two_of {α : Type} {ys : List α} (h : 1 < ys.length) : ∃ x y r, ys = x :: y :: r := match ys, h with | x :: y :: r, _ => ⟨x, y, r, rfl⟩
theorem sqt_sta {H : Hp} {st c a : Addr} {b : Int} {xs : List V} (S : Sta H st c b) (h : SqT K H a xs) : SqT K (er H st) a xs := by
  obtain ⟨cs, i, l, m, n, e1, _⟩ := S.ex
  exact tupEr e1 (noTup_lst _) h
theorem WdL.sta {H : Hp} {st c l : Addr} {b : Int} {wds : List Wd} (S : Sta H st c b) (n : l ≠ st) (h : WdL K H l wds) : WdL K (er H st) l wds := by
  obtain ⟨bs, h1, h2⟩ := h
  exact ⟨bs, er_of n h1, paired_imp (fun _ _ z => sqt_sta S z) h2⟩
theorem Path.inv {rows : Rows} : ∀ {h : Str} {r : List Str}, Path rows h r → (h = "clock" ∧ r = []) ∨ ∃ (h2 : Str) (ws : List Str), (h, h2) ∈ rows ∧ Path rows h2 ws ∧ r = h :: ws
  | _, _, .clock => .inl ⟨rfl, rfl⟩
  | _, _, .step _ m r => .inr ⟨_, _, m, r, rfl⟩
end
end K5
set_option Elab.async false
set_option linter.all false
set_option maxRecDepth 100000
set_option maxHeartbeats 4000000
namespace K5
open PySem L2
local macro_rules | `(tactic| walk_at "rd1") => `(tactic| first
  | refine ⟨_, _, rfl, rfl, ?_⟩
  | refine ⟨_, _, _, _, rfl, rfl, SqL.of (by assumption), rfl, ?_⟩
  | refine ⟨_, _, _, _, rfl, rfl, (by assumption), rfl, ?_⟩
  | refine .inl ⟨_, rfl, ?_⟩
  | refine ⟨_, rfl, ?_⟩
  | refine ⟨(by unfold CMul; omega), ?_⟩
  | refine ⟨(by unfold CPow; omega), ?_⟩
  | refine ⟨(by (try dsimp only); omega), ?_⟩
  | refine ⟨(by unfold CDiv; omega), ?_⟩
  | fail "rd1")
local macro_rules | `(tactic| walk_at "rd") => `(tactic| repeat' (walk_at "rd1"))
open Own
section
variable {P : Program} {w : World} {K : PySem.W.Frag} {mg : Str → Option Value} {base : Heap} {A : Ad}
theorem putF_take {ys : List Str} {f : Str → V} {i : Nat} (nd : ys.Nodup) (hi : i < ys.length) : putK (kvF (ys.take i) f) (.inr ys[i]) (f ys[i]) = kvF (ys.take (i + 1)) f := by
  rw [put_new _ _ _ (by
    rw [kvF_keys]
    intro m
    obtain ⟨z, hz, ez⟩ := List.mem_map.mp m
    exact not_in_take nd hi (by rw [← Sum.inr.inj ez]; exact hz)), List.take_succ, List.getElem?_eq_getElem hi]
  exact (kvF_snoc (ys.take i) ys[i] f).symm
theorem noTup_frz {o : Obj} {kvs : List (Key × V)} : NoTup (.frz o (.dK kvs)) := ⟨fun _ z => (nomatch z), fun _ _ z => (nomatch z)⟩
theorem Pr2.fill {H : Hp} {ys : List Str} {f g : Str → V} {kvs : List (Key × V)} {i : Nat} {a R : Addr} (h : Pr2 K H (ys.take i) f g kvs) (nd : ys.Nodup) (hi : i < ys.length) (na : H a = none) (hR : H R = some (.dK kvs)) :
    Pr2 K (upd (upd H a (.tup [f ys[i], g ys[i]])) R (.dK (putK kvs (.inr ys[i]) (.ref a)))) (ys.take (i + 1)) f g (putK kvs (.inr ys[i]) (.ref a)) := by
  rw [put_new _ _ _ (by
    rw [h.keys]
    intro m
    obtain ⟨z, hz, ez⟩ := List.mem_map.mp m
    exact not_in_take nd hi (by rw [← Sum.inr.inj ez]; exact hz)), List.take_succ, List.getElem?_eq_getElem hi]
  have hR5 : upd H a (.tup [f ys[i], g ys[i]]) R = some (.dK kvs) := Same.new na _ _ hR
  exact Pr2.snoc ((h.up (Same.new na)).set hR5 (noTup_dK _)) (tupSet hR5 (noTup_dK _) (SqT.of upd_same))
/-- the sum of a hook; the waits by sums -/
def clkS (S : Str → Int) (h : Str) : Int := if h = "clock" then 0 else S h
def wOf (hk : Str → Str) (S : Str → Int) (n : Str) : Int := S n - clkS S (hk n)
def spSumA : Sp := fun vs H Q _ => ∃ (h : Str) (d : Addr) (kvs : List (Key × V)) (i : Int), vs = [.str h, .ref d] ∧ Rd H d (.dK kvs) ∧ ((h = "clock" ∧ i = 0) ∨ (h ≠ "clock" ∧ valV kvs (.inr h) = some (.int i))) ∧ Q (.int i) H
theorem ok_suma (T : Txt K mg A) : FnOk P w K mg base CX0 1 A.a_sum_ahead A.d_sum_ahead P_sum_ahead spSumA := by
  refine T.f_sum_ahead.ok sc_sum_ahead (fun vs H Q E h => ?_) (fun cdv A' outer s H vs Q E hr h => ?_)
  · obtain ⟨h, d, kvs, i, rfl, _⟩ := h
    rfl
  · obtain ⟨h, d, kvs, i, rfl, hd, hc, k⟩ := h
    refine ⟨_, (pss_one (ps_ret (pe_ifExp (pt_cmpR op_eq (pv 0) (pe_glob (v := .str "clock") (by rfl) T.g_CLOCK.choose_spec ⟨_, rfl⟩) (nomark _)) pe_int (pe_dget (hu_of hr) (pv 1) (pv 0) (fun _ _ => rfl))))), ?_⟩
    refine ⟨_, rfl, rfl, _, rfl, ite2 (fun c => ?_) (fun c => ?_)⟩
    · have ec : h = "clock" := V.str.inj (of_decide_eq_true c)
      rcases hc with ⟨_, rfl⟩ | ⟨n, _⟩
      · exact k
      · exact absurd ec n
    · rcases hc with ⟨e, _⟩ | ⟨_, hv⟩
      · exact absurd (decide_eq_true (by rw [e])) c
      · exact ⟨_, rfl, _, rfl, d, _, rfl, .inl ⟨kvs, .inr h, hd, rfl, hv.symm⟩, k⟩
def spChkWc : Sp := fun vs H Q _ => ∃ (q : Addr) (ys : List Str) (wt : Str → Int), vs = [.ref q] ∧ H q = some (.dK (kvW ys wt)) ∧ ys.Nodup ∧ ys.length < 64 ∧ PyProof.Rows.sortedS ys = true ∧ (∀ n ∈ ys, 0 ≤ wt n) ∧ ∀ H', Same H H' → Q .non H'
theorem ok_chkwc (T : Txt K mg A) : FnOk P w K mg base CX0 4 A.a_check_waits A.d_check_waits P_check_waits spChkWc := by
  refine T.f_check_waits.ok sc_check_waits (fun vs H Q E h => ?_) (fun cdv A' outer s H vs Q E hr h => ?_)
  · obtain ⟨q, ys, wt, rfl, _⟩ := h
    rfl
  · obtain ⟨q, ys, wt, rfl, hq, nd, hl, hs, h0, k⟩ := h
    refine ⟨_, (pss_one (ps_for PassesOwn.never rfl (pi_list (pe_callB (call_sortedD rfl) (by rfl) T.sorted (by decide +kernel) (pa_cons (pv 0) pa_nil))) (pg_name (i := 1) sc_check_waits.nd rfl (Or.inl rfl))
 (pss_one (ps_if (pt_cmpR op_lt (pe_dget (hu_of hr) (pv 0) (pv 1) (fun _ _ => rfl)) pe_int (nomark _))
 (pss_one ps_never)
 pss_nil)))), ?_⟩
    refine ⟨_, rfl, q, _, ys, rfl, .inl hq, kvF_keys _ _, hl, fun zs l hperm hsort nl => ?_⟩
    obtain rfl : zs = ys := asc_eq hperm hsort (sle_sorted hs)
    refine ⟨l, rfl, ⟨_, SqL.of upd_same⟩, for_it walk_list (fun i σ' H' => ∃ x, σ' = [some (.ref q), x] ∧ Same (upd H l (.lst (zs.map V.str))) H') ⟨_, rfl, Same.refl _⟩ (fun i σ' H' _ ⟨_, _, z⟩ => SqL.of (z _ _ upd_same)) ?_ (fun σ' H' ⟨_, _, z⟩ => k _ ((Same.new nl).trans z))⟩
    rintro i x σ' H' H'' hi ⟨x0, rfl, s1⟩ ⟨rfl, hx⟩
    obtain ⟨hi1, rfl⟩ := str_at hx
    have S1 : Same H H'' := (Same.new nl).trans s1
    have hm := List.getElem_mem hi1
    refine ⟨_, rfl, _, rfl, q, .int (wt zs[i]), rfl, .inl ⟨_, .inr zs[i], .inl (S1 _ _ hq), rfl, (kvF_val (f := fun n => V.int (wt n)) nd hm).symm⟩, _, _, rfl, rfl, _, rfl, ?_⟩
    rw [decide_eq_false (Int.not_lt.mpr (h0 _ hm))]
    exact iteF ⟨_, rfl, s1⟩
theorem made {p dx : Addr} {H4 H5 : Hp} {C : Addr} (np : H4 p = none) (ndx : H4 dx = none)
    (s : Same (er (upd (upd H4 dx (.own p)) p (.ins C dx [])) p) (er H5 p)) : Same H4 H5 := fun b u e => (er_same _ _) _ _ (s _ _ (er_of (ne_of_none e np) (by rw [upd_ne (ne_of_none e np), upd_ne (ne_of_none e ndx)]; exact e)))
def spOfC (K : PySem.W.Frag) (C CH : Addr) : Sp := fun vs H Q _ => ∃ (g q s : Addr) (ys : List Str) (hk : Str → Str) (S : Str → Int) (kss : List (Key × V)) (rk : Str → Nat), vs = [.ref g, .ref s] ∧ HgAt CH H g q (rowsF ys hk) ∧ H s = some (.dK kss) ∧ (∀ n ∈ ys, valV kss (.inr n) = some (.int (S n))) ∧
  ROk rk (rowsF ys hk) ∧ PyProof.Rows.sortedS ys = true ∧ (∀ n ∈ ys, 0 ≤ wOf hk S n) ∧ ∀ p H', Same H H' → H p = none → BkAt C H' p ys hk (wOf hk S) → Q (.ref p) H'
theorem ok_ofc (T : Txt K mg A) : FnOk P w K mg base CX0 7 A.a_Book_of A.d_Book_of P_Book_of (spOfC K A.a_Book A.a_Hanging) := by
  have G_Hanging_rows : FnOk P w K mg base CX0 1 A.a_Hanging_rows A.d_Hanging_rows P_Hanging_rows (spHRows A.a_Hanging) := ok_hrows T
  have G_sum_ahead : FnOk P w K mg base CX0 1 A.a_sum_ahead A.d_sum_ahead P_sum_ahead spSumA := ok_suma T
  have G_check_waits : FnOk P w K mg base CX0 4 A.a_check_waits A.d_check_waits P_check_waits spChkWc := ok_chkwc T
  have G_Book___init__ : FnOk P w K mg base CX0 5 A.a_Book___init__ A.d_Book___init__ P_Book___init__ (spBInit K A.a_Book) := ok_binit T
  refine T.f_Book_of.ok sc_Book_of (fun vs H Q E h => ?_) (fun cdv A' outer s0 H vs Q E hr h => ?_)
  · obtain ⟨g, q, s, ys, hk, S, kss, rk, rfl, _⟩ := h
    rfl
  · obtain ⟨g, q, s, ys, hk, S, kss, rk, rfl, hg, hs, hS, hO, hsy, hw0, k⟩ := h
    have nd : ys.Nodup := by have := hO.nd; rwa [ksR_F] at this
    have hl : ys.length < 64 := by have := hO.len; rwa [← ksR_len, ksR_F] at this
    obtain ⟨dx0, hgp⟩ := id hg.ex
    refine ⟨_, (pss_cons (ps_set (i := 2) sc_Book_of.nd rfl (Or.inr rfl) (pe_meth0 (pv 0) T.cl T.m_rows G_Hanging_rows (hr.mono (by omega)) T.b_Hanging_rows .nil pass0))
 (pss_cons (ps_set (i := 3) sc_Book_of.nd rfl (Or.inr rfl) (pe_lock (pe_dc (own := [("name", 4)]) (g := gName 4) (by rfl) sc_Book_of.nd (pi_keys (pv 2)) (blkOk_by (N := N_Book_of) (sc := defScope s_Book_of) (by decide +kernel)) (fun _ _ _ _ _ => pg_name (i := 4) sc_Book_of.nd rfl (Or.inl rfl)) (fun _ _ _ _ _ => pts_nil) (fun _ _ _ _ _ => (pv 4)) (fun _ _ _ _ _ => (pe_op op_sub (pe_dget (hu_of hr) (pv 1) (pv 4) (fun _ _ => rfl)) (pe_call G_sum_ahead (hr.mono (by omega)) (by rfl) T.g_sum_ahead T.f_sum_ahead.kp T.b_sum_ahead .nil pass0 (pa_cons (pe_dget (hu_of hr) (pv 2) (pv 4) (fun _ _ => rfl)) (pa_cons (pv 1) pa_nil))))))))
 (pss_cons (ps_expr (pe_call G_check_waits (hr.mono (by omega)) (by rfl) T.g_check_waits T.f_check_waits.kp T.b_check_waits .nil pass0 (pa_cons (pv 3) pa_nil)))
 (pss_one (ps_ret (pe_make T.mkB G_Book___init__ (hr.mono (by omega)) (by rfl) T.g_Book T.b_Book___init__ .nil pass0 (pa_cons (pe_lock (pe_dc (own := [("name", 4)]) (g := gName 4) (by rfl) sc_Book_of.nd (pi_keys (pv 2)) (blkOk_by (N := N_Book_of) (sc := defScope s_Book_of) (by decide +kernel)) (fun _ _ _ _ _ => pg_name (i := 4) sc_Book_of.nd rfl (Or.inl rfl)) (fun _ _ _ _ _ => pts_nil) (fun _ _ _ _ _ => (pv 4)) (fun _ _ _ _ _ => (pe_tup (pa_cons (pe_dget (hu_of hr) (pv 2) (pv 4) (fun _ _ => rfl)) (pa_cons (pe_dget (hu_of hr) (pv 3) (pv 4) (fun _ _ => rfl)) pa_nil)))))) pa_nil))))))), ?_⟩
    refine ⟨_, rfl, g, dx0, _, rfl, hgp, rfl, g, q, _, rfl, hg, fun l nl => ?_⟩
    have s1 : Same H (upd H l (.dK (kvR (rowsF ys hk)))) := Same.new nl
    have hl1 : upd H l (.dK (kvR (rowsF ys hk))) l = some (.dK (kvF ys fun n => .str (hk n))) := by rw [kvR_F]; exact upd_same
    have nsl : s ≠ l := ne_of_none hs nl
    generalize upd H l (.dK (kvR (rowsF ys hk))) = H1 at s1 hl1 ⊢
    -- the waits
    refine ⟨l, _, hl1, trivial, fun od => ?_⟩
    have hlF : upd H1 l (.frz od (.dK (kvF ys fun n => .str (hk n)))) l = some (.frz od (.dK (kvF ys fun n => .str (hk n)))) := upd_same
    have hsF : upd H1 l (.frz od (.dK (kvF ys fun n => .str (hk n)))) s = some (.dK kss) := by rw [upd_ne nsl]; exact s1 _ _ hs
    have uF : ∀ H2, Same (upd H1 l (.frz od (.dK (kvF ys fun n => .str (hk n))))) H2 → Same H1 (upd H2 l (.dK (kvF ys fun n => .str (hk n)))) := fun H2 s => unfrz hl1 s
    generalize upd H1 l (.frz od (.dK (kvF ys fun n => .str (hk n)))) = F at hlF hsF uF ⊢
    refine ⟨_, rfl, l, od, rfl, .inl ⟨_, hlF, fun D hD => fillD walk_keys (fun i H' => Same F H' ∧ H' D = some (.dK (kvF (ys.take i) fun n => .int (wOf hk S n)))) ⟨Same.new hD, upd_same⟩ (fun i H' _ z => z.1 _ _ hlF) ?_ (fun H2 z => ?_)⟩⟩
    · rintro i x H' H'' hi ⟨s2, hD2⟩ ⟨rfl, key, v, hkv, rfl⟩
      obtain ⟨hi1, rfl, rfl⟩ := kvF_at hkv
      have hm : ys[i] ∈ ys := List.getElem_mem hi1
      refine ⟨rfl, _, rfl, _, rfl, _, rfl, s, .int (S ys[i]), rfl, .inl ⟨kss, .inr ys[i], .inl (s2 _ _ hsF), rfl, (hS _ hm).symm⟩, ?_⟩
      refine ⟨_, rfl, _, rfl, l, .str (hk ys[i]), rfl, .inl ⟨_, .inr ys[i], .inr ⟨od, s2 _ _ hlF⟩, rfl, (kvF_val (f := fun n => V.str (hk n)) nd hm).symm⟩, _, rfl, hk ys[i], s, kss, clkS S (hk ys[i]), rfl, .inl (s2 _ _ hsF), ?_, ?_⟩
      · by_cases c : hk ys[i] = "clock"
        · exact .inl ⟨c, if_pos c⟩
        · refine .inr ⟨c, ?_⟩
          have hin : hk ys[i] ∈ ys := by
            have := (hO.acy ys[i] _ (mem_F hm)).resolve_left c
            have := this.1
            rwa [ksR_F] at this
          rw [hS _ hin]
          exact congrArg (fun z => some (V.int z)) (if_neg c).symm
      · refine ⟨_, _, rfl, rfl, _, .inr ys[i], rfl, hD2, ?_, ?_, ?_⟩
        · rw [kvF_len, List.length_take]; exact Nat.lt_of_le_of_lt (show min i _ ≤ 64 by omega) (by decide)
        · exact fun c u e => by rw [upd_ne (ne_of_none e hD)]; exact s2 _ _ e
        · rw [upd_same]
          exact congrArg (fun z => some (HO.dK z)) (putF_take (f := fun n => V.int (wOf hk S n)) nd hi1)
    obtain ⟨s2, hD2⟩ := z
    rw [kvF_len, List.take_length] at hD2
    have nDl : D ≠ l := fun e => by rw [e, hlF] at hD; cases hD
    refine ⟨s2 _ _ hlF, ?_⟩
    have S3 := s1.trans (uF _ s2)
    have hl3 : upd H2 l (.dK (kvF ys fun n => .str (hk n))) l = some (.dK (kvF ys fun n => .str (hk n))) := upd_same
    have hD3 : upd H2 l (.dK (kvF ys fun n => .str (hk n))) D = some (.dK (kvW ys (wOf hk S))) := by rw [upd_ne nDl]; exact hD2
    generalize upd H2 l (.dK (kvF ys fun n => .str (hk n))) = H3 at S3 hl3 hD3 ⊢
    clear uF hsF hlF s2 hD2 hD s1 hl1
    refine ⟨_, rfl, D, ys, wOf hk S, rfl, hD3, nd, hl, hsy, hw0, fun H4 s4 => ?_⟩
    have hl4 := s4 _ _ hl3
    have hD4 := s4 _ _ hD3
    -- the rows
    refine ⟨l, _, hl4, trivial, fun od2 => ?_⟩
    have hlF : upd H4 l (.frz od2 (.dK (kvF ys fun n => .str (hk n)))) l = some (.frz od2 (.dK (kvF ys fun n => .str (hk n)))) := upd_same
    have hDF : upd H4 l (.frz od2 (.dK (kvF ys fun n => .str (hk n)))) D = some (.dK (kvW ys (wOf hk S))) := by rw [upd_ne nDl]; exact hD4
    have uF : ∀ H2, Same (upd H4 l (.frz od2 (.dK (kvF ys fun n => .str (hk n))))) H2 → Same H4 (upd H2 l (.dK (kvF ys fun n => .str (hk n)))) := fun H2 s => unfrz hl4 s
    generalize upd H4 l (.frz od2 (.dK (kvF ys fun n => .str (hk n)))) = G at hlF hDF uF ⊢
    refine ⟨_, rfl, l, od2, rfl, .inl ⟨_, hlF, fun R hR => fillD walk_keys (fun i H' => Same G H' ∧ ∃ kvs, H' R = some (.dK kvs) ∧ Pr2 K H' (ys.take i) (fun n => .str (hk n)) (fun n => .int (wOf hk S n)) kvs) ⟨Same.new hR, [], upd_same, Pr2.nil⟩ (fun i H' _ z => z.1 _ _ hlF) ?_ (fun H5 z => ?_)⟩⟩
    · rintro i x H' H'' hi ⟨s5, kvs, hR5, hP5⟩ ⟨rfl, key, v, hkv, rfl⟩
      obtain ⟨hi1, rfl, rfl⟩ := kvF_at hkv
      have hm : ys[i] ∈ ys := List.getElem_mem hi1
      refine ⟨rfl, _, rfl, _, rfl, _, rfl, l, _, rfl, .inl ⟨_, .inr ys[i], .inr ⟨od2, s5 _ _ hlF⟩, rfl, (kvF_val (f := fun n => V.str (hk n)) nd hm).symm⟩, _, rfl, _, rfl, D, _, rfl, .inl ⟨_, .inr ys[i], .inl (s5 _ _ hDF), rfl, (kvF_val (f := fun n => V.int (wOf hk S n)) nd hm).symm⟩, ?_⟩
      refine ⟨by show 2 ≤ sizeLine; decide, fun a na => ⟨_, .inr ys[i], rfl, Same.new na _ _ hR5, ?_, ?_, _, upd_same, hP5.fill nd hi1 na hR5⟩⟩
      · rw [hP5.len, List.length_take]; exact Nat.lt_of_le_of_lt (show min i _ ≤ 64 by omega) (by decide)
      · exact fun c u e => by rw [upd_ne (ne_of_none e hR)]; exact Same.new na _ _ (s5 _ _ e)
    obtain ⟨s5, kvs, hR5, hP5⟩ := z
    rw [kvF_len, List.take_length] at hP5
    have nRl : R ≠ l := fun e => by rw [e, hlF] at hR; cases hR
    refine ⟨s5 _ _ hlF, fun p dx np ndx ndp => ?_⟩
    have S5 := s4.trans (uF _ s5)
    have hR6 : upd H5 l (.dK (kvF ys fun n => .str (hk n))) R = some (.dK kvs) := by rw [upd_ne nRl]; exact hR5
    have hP6 : Pr2 K (upd H5 l (.dK (kvF ys fun n => .str (hk n)))) ys (fun n => .str (hk n)) (fun n => .int (wOf hk S n)) kvs := hP5.set (s5 _ _ hlF) noTup_frz
    generalize upd H5 l (.dK (kvF ys fun n => .str (hk n))) = H6 at S5 hR6 hP6 np ndx ⊢
    have sM : Same H6 (upd (upd H6 dx (.own p)) p (.ins A.a_Book dx [])) := fun b u e => by rw [upd_ne (ne_of_none e np), upd_ne (ne_of_none e ndx)]; exact e
    refine ⟨p, dx, R, kvs, ys, hk, wOf hk S, rk, rfl, upd_same, sM _ _ hR6, hP6.up sM, hO, hw0, fun H7 zs B7 hzs hzy sS => ⟨rfl, ?_⟩⟩
    obtain rfl : zs = ys := asc_eq hzs hzy (sle_sorted hsy)
    exact k p H7 ((S3.trans S5).trans (made np ndx sS)) ((S3.trans S5).free np) B7
def spEarly (K : PySem.W.Frag) (CM CH CB : Addr) : Sp := fun vs H Q _ => ∃ (p b : Addr) (o : V) (ys : List Str) (hk : Str → Str) (W : Str → List Str) (lo hi : Str → Int) (ws : List (Mo × Mo × Int)) (es : List PyData) (ps : List (Str × Str)), vs = [.ref p, .ref b, o] ∧ MH K CM CH H p b o ys hk W lo hi ws es ps ∧ ws.length ≤ 100 ∧ ps.length ≤ 100 ∧
  (∀ t L H', Same H H' → H t = none → BkAt CB H' t ys hk (wOf hk L) → (∀ v, 0 ≤ L v) → KeptR (rowsOf ys hk W lo hi ws ps) L → (∀ M : Str → Int, (∀ v, 0 ≤ M v) → KeptR (rowsOf ys hk W lo hi ws ps) M → ∀ v, L v ≤ M v) → Q (.ref t) H') ∧
  (∀ is H', Same H H' → RingI (rowsOf ys hk W lo hi ws ps) is → Q .non H')
theorem ok_early (T : Txt K mg A) : FnOk P w K mg base CX0 9 A.a_earliest A.d_earliest P_earliest (spEarly K A.a_Meal A.a_Hanging A.a_Book) := by
  have G_least_sums : FnOk P w K mg base CX0 8 A.a_least_sums A.d_least_sums P_least_sums (spLeast K A.a_Meal A.a_Hanging) := ok_least T
  have G_Book_of : FnOk P w K mg base CX0 7 A.a_Book_of A.d_Book_of P_Book_of (spOfC K A.a_Book A.a_Hanging) := ok_ofc T
  refine T.f_earliest.ok sc_earliest (fun vs H Q E h => ?_) (fun cdv A' outer s H vs Q E hr h => ?_)
  · obtain ⟨p, b, o, ys, hk, W, lo, hi, ws, es, ps, rfl, _⟩ := h
    rfl
  · obtain ⟨p, b, o, ys, hk, W, lo, hi, ws, es, ps, rfl, B, wl, pl, k1, k2⟩ := h
    refine ⟨_, (pss_cons (ps_asg (pe_call G_least_sums (hr.mono (by omega)) (by rfl) T.g_least_sums T.f_least_sums.kp T.b_least_sums .nil pass0 (pa_cons (pv 0) (pa_cons (pv 1) (pa_cons (pv 2) pa_nil)))) (pg_tup (by rfl) (pgs_cons (pg_name (i := 3) sc_earliest.nd rfl (Or.inl rfl)) (pgs_cons (pg_name (i := 4) sc_earliest.nd rfl (Or.inl rfl)) pgs_nil))))
 (pss_one (ps_ret (pe_ifExp (pt_cmpR op_isN (pv 3) pe_non (nomark _)) pe_non (Own.pe_stm (pe_glob (v := .ref A.a_Book) (by rfl) T.g_Book rfl) T.stO G_Book_of (hr.mono (by omega)) T.b_Book_of pass0 (pa_cons (pv 1) (pa_cons (pv 3) pa_nil))))))), ?_⟩
    refine ⟨_, rfl, _, rfl, _, rfl, p, b, o, ys, hk, W, lo, hi, ws, es, ps, rfl, B, wl, pl, fun t dl L H1 s1 nt ndl ht hdl h0 hK hm => ?_, fun t lq bs lr nm is H1 s1 nt nlq ht hlq hR hN hI il => ?_⟩
    · refine ⟨t, _, rfl, SqT.of ht, rfl, _, _, rfl, _, _, rfl, rfl, ?_⟩
      have B1 := B.up s1
      obtain ⟨q, dy, hb, hg⟩ := hg_at B1.h
      obtain ⟨rk, hO⟩ := B.O
      have nclk : ("clock" : Str) ∉ ys := fun m => (hO.nm "clock" (by rw [ksR_F]; exact m)).1.noclock rfl
      have cN : (clkL ys).Nodup := List.nodup_cons.mpr ⟨nclk, B.nd⟩
      have hw0 : ∀ n ∈ ys, 0 ≤ wOf hk L n := fun n m => by
        have hr := hK (n, hk n, 0) (List.mem_map.mpr ⟨.wait n, List.mem_append_left _ (List.mem_append_left _ (List.mem_map.mpr ⟨n, m, rfl⟩)), rfl⟩)
        have hr : L (hk n) - 0 ≤ L n := hr
        have hn := h0 n
        unfold wOf clkS
        by_cases c : hk n = "clock"
        · rw [if_pos c]; omega
        · rw [if_neg c]; omega
      refine ⟨_, rfl, rfl, _, rfl, iteF ?_⟩
      refine ⟨rfl, _, rfl, _, rfl, b, q, dl, ys, hk, L, _, rk, rfl, hg, hdl, fun n m => kvF_val (f := fun n => V.int (L n)) cN (List.mem_cons_of_mem _ m), hO, B.srt, hw0, fun bk H2 s2 nb BK => ?_⟩
      exact k1 bk L H2 (s1.trans s2) (s1.free nb) BK h0 hK hm
    · refine ⟨t, _, rfl, SqT.of ht, rfl, _, _, rfl, _, _, rfl, rfl, ?_⟩
      exact ⟨_, rfl, rfl, _, rfl, iteT (k2 is _ s1 hI)⟩
end
end K5
set_option Elab.async false
set_option linter.all false
set_option maxRecDepth 100000
set_option maxHeartbeats 4000000
namespace K5
open PySem L2
local macro_rules | `(tactic| walk_at "rd1") => `(tactic| first
  | refine ⟨_, _, rfl, rfl, ?_⟩
  | refine ⟨_, _, _, _, rfl, rfl, SqL.of (by assumption), rfl, ?_⟩
  | refine ⟨_, _, _, _, rfl, rfl, (by assumption), rfl, ?_⟩
  | refine .inl ⟨_, rfl, ?_⟩
  | refine ⟨_, rfl, ?_⟩
  | refine ⟨(by unfold CMul; omega), ?_⟩
  | refine ⟨(by unfold CPow; omega), ?_⟩
  | refine ⟨(by (try dsimp only); omega), ?_⟩
  | refine ⟨(by unfold CDiv; omega), ?_⟩
  | fail "rd1")
local macro_rules | `(tactic| walk_at "rd") => `(tactic| repeat' (walk_at "rd1"))
open Own
section
variable {P : Program} {w : World} {K : PySem.W.Frag} {mg : Str → Option Value} {base : Heap} {A : Ad}
theorem Pth.split {rows : List Rw} : ∀ {a b : List Nat} {v u : Str} {s : Int}, Pth rows v (a ++ b) u s → ∃ (m : Str) (s1 s2 : Int), Pth rows v a m s1 ∧ Pth rows m b u s2 ∧ s = s1 + s2
  | [], b, v, u, s, p => ⟨v, 0, s, .nil v, p, (Int.zero_add s).symm⟩
  | i :: a, b, _, u, _, .cons h t => by
    obtain ⟨m, s1, s2, p1, p2, e⟩ := Pth.split (a := a) (b := b) t
    exact ⟨m, _, s2, .cons h p1, p2, by rw [e]; omega⟩
theorem Pth.snoc_inv {rows : List Rw} {is : List Nat} {i : Nat} {v u : Str} {s : Int} (p : Pth rows v (is ++ [i]) u s) : ∃ (h : i < rows.length) (s0 : Int), Pth rows v is rows[i].1 s0 ∧ rows[i].2.1 = u ∧ s = s0 + rows[i].2.2 := by
  obtain ⟨m, s1, s2, p1, p2, e⟩ := p.split
  cases p2 with
  | cons h t =>
    obtain ⟨e1, e2⟩ := t.nil_inv
    exact ⟨h, s1, p1, e1, by rw [e, e2]; omega⟩
/-- the places of a way -/
def nds (rows : List Rw) (v : Str) (is : List Nat) : List Str := v :: is.map fun i => (rows.getD i ("", "", 0)).2.1
theorem Pth.cut {rows : List Rw} {v : Str} : ∀ {is : List Nat} {w u : Str} {s : Int}, Pth rows w is u s → v ∈ nds rows w is → (nds rows w is).Nodup → ∃ (a b : List Nat) (s1 s2 : Int), Pth rows w a v s1 ∧ Pth rows v b u s2 ∧ s = s1 + s2 ∧ (nds rows v b).Nodup
  | is, w, u, s, p, m, nd => by
    by_cases c : v = w
    · subst c
      exact ⟨[], is, 0, s, .nil v, p, (Int.zero_add s).symm, nd⟩
    · cases p with
      | nil _ => exact absurd (List.mem_singleton.mp m) c
      | @cons i is' _ s' h t =>
        have m2 : v ∈ nds rows rows[i].2.1 is' := by
          have m := (List.mem_cons.mp m).resolve_left c
          rw [List.map_cons, getD_of h] at m
          exact m
        have nd2 : (nds rows rows[i].2.1 is').Nodup := by
          have nd := (List.nodup_cons.mp nd).2
          rw [List.map_cons, getD_of h] at nd
          exact nd
        obtain ⟨a, b, s1, s2, p1, p2, e, n⟩ := Pth.cut t m2 nd2
        exact ⟨i :: a, b, _, s2, .cons h p1, p2, by rw [e]; omega, n⟩
/-- no way that comes back costs less than nothing: a way that sees no place twice costs no more -/
theorem Pth.simple {rows : List Rw} {L : Str → Int} (K : KeptR rows L) {v u : Str} {is : List Nat} {s : Int} (p : Pth rows v is u s) : ∃ (is' : List Nat) (s' : Int), Pth rows v is' u s' ∧ s' ≤ s ∧ (nds rows v is').Nodup := by
  induction p with
  | nil v => exact ⟨[], 0, .nil v, Int.le_refl _, List.pairwise_singleton _ _⟩
  | @cons i is u s h t ih =>
    obtain ⟨is', s', p', le, nd⟩ := ih
    by_cases c : rows[i].1 ∈ nds rows rows[i].2.1 is'
    · obtain ⟨a, b, s1, s2, p1, p2, e, n⟩ := p'.cut c nd
      have := (Pth.cons h p1).keep (S := L) fun j _ hj => K _ (List.getElem_mem hj)
      exact ⟨b, s2, p2, by omega, n⟩
    · refine ⟨i :: is', _, .cons h p', by omega, ?_⟩
      show (rows[i].1 :: (i :: is').map fun i => (rows.getD i ("", "", 0)).2.1).Nodup
      rw [List.map_cons, getD_of h]
      exact List.nodup_cons.mpr ⟨c, nd⟩
theorem Pth.short {rows : List Rw} {L : Str → Int} {ns : List Str} (K : KeptR rows L) (hr : ∀ r ∈ rows, r.2.1 ∈ ns) {v u : Str} {is : List Nat} {s : Int} (hv : v ∈ ns) (p : Pth rows v is u s) : ∃ (is' : List Nat) (s' : Int), Pth rows v is' u s' ∧ s' ≤ s ∧ is'.length + 1 ≤ ns.length := by
  obtain ⟨is', s', p', le, nd⟩ := p.simple K
  refine ⟨is', s', p', le, ?_⟩
  have := nodup_le (l' := ns) nd fun x m => by
    rcases List.mem_cons.mp m with rfl | m
    · exact hv
    · obtain ⟨i, hi, rfl⟩ := List.mem_map.mp m
      have := p'.lt i hi
      show (rows.getD i ("", "", 0)).2.1 ∈ ns
      rw [getD_of this]
      exact hr _ (List.getElem_mem this)
  simpa [nds] using this
/-- what stands after t turns and pos rows more -/
structure GS (rows : List Rw) (src : Str) (t pos : Nat) (g : Str → Option Int) : Prop where
  a : ∀ v x, g v = some x → ∃ is, Pth rows src is v x
  b : ∀ is v s, Pth rows src is v s → is.length ≤ t → ∃ x, g v = some x ∧ x ≤ s
  c : ∀ i (hi : i < rows.length), i < pos → ∀ is s, Pth rows src is rows[i].1 s → is.length ≤ t → ∃ x, g rows[i].2.1 = some x ∧ x ≤ s + rows[i].2.2
theorem GS.start {rows : List Rw} {src : Str} : GS rows src 0 0 (fun v => if v = src then some 0 else none) := by
  refine ⟨fun v x e => ?_, fun is v s p h => ?_, fun i _ h => absurd h (Nat.not_lt_zero _)⟩
  · by_cases c : v = src
    · have e : (if v = src then some (0 : Int) else none) = some x := e
      rw [if_pos c] at e
      cases e
      rw [c]
      exact ⟨[], .nil _⟩
    · have e : (if v = src then some (0 : Int) else none) = some x := e
      rw [if_neg c] at e
      cases e
  · cases is with
    | nil =>
      obtain ⟨e1, e2⟩ := p.nil_inv
      exact ⟨0, if_pos e1.symm, by omega⟩
    | cons i is => exact absurd h (by simp)
theorem GS.turn {rows : List Rw} {src : Str} {t : Nat} {g : Str → Option Int} (h : GS rows src t rows.length g) : GS rows src (t + 1) 0 g := by
  refine ⟨h.a, fun is v s p hl => ?_, fun i _ h => absurd h (Nat.not_lt_zero _)⟩
  by_cases c : is.length ≤ t
  · exact h.b is v s p c
  · rcases List.eq_nil_or_concat is with rfl | ⟨is0, i, rfl⟩
    · exact absurd (Nat.zero_le _) c
    · rw [List.concat_eq_append] at p hl
      obtain ⟨hi, s0, p0, e1, e2⟩ := p.snoc_inv
      rw [List.length_append, List.length_singleton] at hl
      have := h.c i hi hi is0 s0 p0 (by omega)
      rw [e1, ← e2] at this
      exact this
/-- a row that gives nothing less -/
theorem GS.skip {rows : List Rw} {src : Str} {t pos : Nat} {g : Str → Option Int} (h : GS rows src t pos g) (hp : pos < rows.length) (n : ∀ x, g rows[pos].1 = some x → ∃ y, g rows[pos].2.1 = some y ∧ y ≤ x + rows[pos].2.2) : GS rows src t (pos + 1) g := by
  refine ⟨h.a, h.b, fun i hi lt is s p hl => ?_⟩
  by_cases c : i < pos
  · exact h.c i hi c is s p hl
  · obtain rfl : i = pos := by omega
    obtain ⟨x, e, le⟩ := h.b is _ s p hl
    obtain ⟨y, e2, le2⟩ := n x e
    exact ⟨y, e2, by omega⟩
/-- a row that gives less -/
theorem GS.less {rows : List Rw} {src : Str} {t pos : Nat} {g : Str → Option Int} {x : Int} (h : GS rows src t pos g) (hp : pos < rows.length) (e : g rows[pos].1 = some x) (n : ∀ y, g rows[pos].2.1 = some y → x + rows[pos].2.2 < y) : GS rows src t (pos + 1) (fun v => if v = rows[pos].2.1 then some (x + rows[pos].2.2) else g v) := by
  have mono : ∀ v s, (∃ y, g v = some y ∧ y ≤ s) → ∃ y, (if v = rows[pos].2.1 then some (x + rows[pos].2.2) else g v) = some y ∧ y ≤ s := fun v s ⟨y, e, le⟩ => by
    by_cases c : v = rows[pos].2.1
    · rw [if_pos c]
      rw [c] at e
      have := n y e
      exact ⟨_, rfl, by omega⟩
    · rw [if_neg c]; exact ⟨y, e, le⟩
  refine ⟨fun v y e2 => ?_, fun is v s p hl => mono _ _ (h.b is v s p hl), fun i hi lt is s p hl => ?_⟩
  · have e2 : (if v = rows[pos].2.1 then some (x + rows[pos].2.2) else g v) = some y := e2
    by_cases c : v = rows[pos].2.1
    · rw [if_pos c] at e2
      cases e2
      obtain ⟨is, p⟩ := h.a _ _ e
      rw [c]
      exact ⟨_, p.snoc hp rfl⟩
    · rw [if_neg c] at e2
      exact h.a v y e2
  · by_cases c : i < pos
    · exact mono _ _ (h.c i hi c is s p hl)
    · obtain rfl : i = pos := by omega
      obtain ⟨x2, e2, le⟩ := h.b is _ s p hl
      rw [e] at e2
      cases e2
      exact ⟨_, if_pos rfl, by omega⟩
/-- after as many turns as places less one nothing gets less, where sums keep the rows -/
theorem GS.done {rows : List Rw} {src : Str} {t : Nat} {g : Str → Option Int} {L : Str → Int} {ns : List Str} (h : GS rows src t 0 g) (K : KeptR rows L) (hr : ∀ r ∈ rows, r.2.1 ∈ ns) (hs : src ∈ ns) (hn : ns.length ≤ t + 1) :
    (∀ is v s, Pth rows src is v s → ∃ x, g v = some x ∧ x ≤ s) ∧ ∀ r ∈ rows, ∀ x, g r.1 = some x → ∃ y, g r.2.1 = some y ∧ y ≤ x + r.2.2 := by
  have all : ∀ is v s, Pth rows src is v s → ∃ x, g v = some x ∧ x ≤ s := fun is v s p => by
    obtain ⟨is', s', p', le, hl⟩ := p.short K hr hs
    obtain ⟨x, e, le2⟩ := h.b is' v s' p' (by omega)
    exact ⟨x, e, by omega⟩
  refine ⟨all, fun r m x e => ?_⟩
  obtain ⟨i, hi, rfl⟩ := List.getElem_of_mem m
  obtain ⟨is, p⟩ := h.a _ _ e
  exact all _ _ _ (p.snoc hi rfl)
/-- sums that keep the rows, 0 at the source, stay below the bounds -/
theorem GS.below {rows : List Rw} {src : Str} {t pos : Nat} {g : Str → Option Int} (h : GS rows src t pos g) {S : Str → Int} (K : KeptR rows S) (h0 : S src = 0) : ∀ v x, g v = some x → S v ≤ x := fun v x e => by
  obtain ⟨is, p⟩ := h.a v x e
  have := p.keep (S := S) fun i _ hi => K _ (List.getElem_mem hi)
  omega
end
end K5
set_option Elab.async false
set_option linter.all false
set_option maxRecDepth 100000
set_option maxHeartbeats 4000000
namespace K5
open PySem L2
local macro_rules | `(tactic| walk_at "rd1") => `(tactic| first
  | refine ⟨_, _, rfl, rfl, ?_⟩
  | refine ⟨_, _, _, _, rfl, rfl, SqL.of (by assumption), rfl, ?_⟩
  | refine ⟨_, _, _, _, rfl, rfl, (by assumption), rfl, ?_⟩
  | refine .inl ⟨_, rfl, ?_⟩
  | refine ⟨_, rfl, ?_⟩
  | refine ⟨(by unfold CMul; omega), ?_⟩
  | refine ⟨(by unfold CPow; omega), ?_⟩
  | refine ⟨(by (try dsimp only); omega), ?_⟩
  | refine ⟨(by unfold CDiv; omega), ?_⟩
  | fail "rd1")
local macro_rules | `(tactic| walk_at "rd") => `(tactic| repeat' (walk_at "rd1"))
open Own
section
variable {P : Program} {w : World} {K : PySem.W.Frag} {mg : Str → Option Value} {base : Heap} {A : Ad}
def gOf (vis : List Str) (G : Str → Int) : Str → Option Int := fun v => if v ∈ vis then some (G v) else none
theorem putK_I {cs : List Str} {C : Str → Int} {v : Str} {i : Int} : putK (kvF cs fun n => .int (C n)) (.inr v) (.int i) = kvF (if v ∈ cs then cs else cs ++ [v]) (fun n => .int (setF C v i n)) := by
  by_cases m : v ∈ cs
  · rw [if_pos m, putK_F m]
    refine List.map_congr_left fun n _ => ?_
    show (Sum.inr n, if n = v then V.int i else V.int (C n)) = (Sum.inr n, V.int (setF C v i n))
    by_cases c : n = v
    · subst c; rw [if_pos rfl, setF_same]
    · rw [if_neg c, setF_ne c]
  · rw [if_neg m, put_new _ _ _ (by rw [kvF_keys]; intro z; obtain ⟨y, hy, e⟩ := List.mem_map.mp z; exact m (by rw [← Sum.inr.inj e]; exact hy)), kvF_snoc, setF_same]
    congr 1
    refine List.map_congr_left fun n q => ?_
    show (Sum.inr n, V.int (C n)) = (Sum.inr n, V.int (setF C v i n))
    rw [setF_ne fun e => m (by rw [← e]; exact q)]
theorem gOf_put {vis : List Str} {G : Str → Int} {e : Str} {x : Int} : gOf (if e ∈ vis then vis else vis ++ [e]) (setF G e x) = fun v => if v = e then some x else gOf vis G v := by
  funext v
  unfold gOf
  by_cases c : v = e
  · subst c
    rw [if_pos rfl, setF_same]
    by_cases m : v ∈ vis
    · rw [if_pos m, if_pos m]
    · rw [if_neg m, if_pos (List.mem_append_right _ (.head _))]
  · rw [if_neg c, setF_ne c]
    by_cases m : e ∈ vis
    · rw [if_pos m]
    · rw [if_neg m]
      by_cases q : v ∈ vis
      · rw [if_pos q, if_pos (List.mem_append_left _ q)]
      · rw [if_neg q, if_neg fun z => (List.mem_append.mp z).elim q fun z => c (List.mem_singleton.mp z)]
theorem val_g {vis : List Str} {G : Str → Int} {v : Str} (nd : vis.Nodup) : valV (kvF vis fun n => V.int (G n)) (.inr v) = (gOf vis G v).map V.int := by
  unfold gOf
  by_cases m : v ∈ vis
  · rw [if_pos m]
    exact kvF_val (f := fun n => V.int (G n)) nd m
  · rw [if_neg m]
    have := key_some (kvF_keys vis fun n => V.int (G n)) v
    rw [decide_eq_false m] at this
    exact Option.not_isSome_iff_eq_none.mp (by rw [this]; decide)
theorem vis_put {vis ns : List Str} {e : Str} (nd : vis.Nodup) (h : ∀ v ∈ vis, v ∈ ns) (he : e ∈ ns) : (if e ∈ vis then vis else vis ++ [e]).Nodup ∧ ∀ v ∈ (if e ∈ vis then vis else vis ++ [e]), v ∈ ns := by
  by_cases m : e ∈ vis
  · rw [if_pos m]; exact ⟨nd, h⟩
  · rw [if_neg m]
    refine ⟨List.nodup_append.mpr ⟨nd, List.pairwise_singleton _ _, fun a ha b hb q => ?_⟩, fun v q => (List.mem_append.mp q).elim (h v) fun q => ?_⟩
    · rw [List.mem_singleton.mp hb] at q; exact m (by rw [← q]; exact ha)
    · rw [List.mem_singleton.mp q]; exact he
def spBounded (K : PySem.W.Frag) : Sp := fun vs H Q _ => ∃ (lr : Addr) (src : Str) (n : Nat) (ns : List Str) (bs : List Addr) (rows : List Rw) (nm : Nat → V), vs = [.str src, .ref lr, .int (n : Nat)] ∧ n ≤ 1000 ∧ src ∈ ns ∧ ns.length ≤ 64 ∧ RvL K H lr bs rows nm ∧ (∀ r ∈ rows, r.1 ∈ ns ∧ r.2.1 ∈ ns) ∧
  ∀ d vis G H', Same H H' → H d = none → H' d = some (.dK (kvF vis fun n => .int (G n))) → vis.Nodup → (∀ v ∈ vis, v ∈ ns) → GS rows src n 0 (gOf vis G) → Q (.ref d) H'
theorem ok_bounded (T : Txt K mg A) : FnOk P w K mg base CX0 1 A.a_bounded A.d_bounded P_bounded (spBounded K) := by
  refine T.f_bounded.ok sc_bounded (fun vs H Q E h => ?_) (fun cdv A' outer s H vs Q E hr h => ?_)
  · obtain ⟨lr, src, n, ns, bs, rows, nm, rfl, _⟩ := h
    rfl
  · obtain ⟨lr, src, n, ns, bs, rows, nm, rfl, n1, hs, nl, hR, hin, k⟩ := h
    refine ⟨_, (pss_cons (ps_set (i := 3) sc_bounded.nd rfl (Or.inl rfl) (pe_disp (pps_cons (pv 0) pe_int pps_nil) (by rfl) (by rfl) (fun z => by cases z) (by decide)))
 (pss_cons (ps_for PassesOwn.never rfl (pi_range1 (by rfl) T.range (pa_cons (pv 2) pa_nil)) (pg_name (i := 4) sc_bounded.nd rfl (Or.inl rfl))
 (pss_one (ps_for PassesOwn.never rfl (pi_list (pv 1)) (pg_tup (by rfl) (pgs_cons (pg_name (i := 5) sc_bounded.nd rfl (Or.inl rfl)) (pgs_cons (pg_name (i := 6) sc_bounded.nd rfl (Or.inl rfl)) (pgs_cons (pg_name (i := 7) sc_bounded.nd rfl (Or.inl rfl)) (pgs_cons (pg_name (i := 8) sc_bounded.nd rfl (Or.inl rfl)) pgs_nil)))))
 (pss_one (ps_if (PW.pt (pw_and (pt_cmp (pc_din (hu_of hr) (pv 5) (pv 3)) rfl) (pw_and1 (PW.pt (pw_or (pt_cmp (pc_dnotin (hu_of hr) (pv 6) (pv 3)) rfl) (pw_or1 (pt_cmpR op_lt (pe_op op_add (pe_dget (hu_of hr) (pv 3) (pv 5) (fun _ _ => rfl)) (pv 7)) (pe_dget (hu_of hr) (pv 3) (pv 6) (fun _ _ => rfl)) (nomark _))))))))
 (pss_one (ps_dput (hu_of hr) (pv 3) (pv 6) (pe_op op_add (pe_dget (hu_of hr) (pv 3) (pv 5) (fun _ _ => rfl)) (pv 7)) rfl))
 pss_nil)))))
 (pss_one (ps_ret (pv 3))))), ?_⟩
    refine fun d nd => ⟨_, rfl, upd_same, [(.inr src, .int 0)], rfl, by show 1 ≤ 15; decide, ?_⟩
    refine cast_heap (b := upd H d (.dK (kvF [src] fun n => .int ((fun _ => (0 : Int)) n)))) (by rw [upd_upd]; rfl) ?_
    have s1 := Same.new nd (o := .dK (kvF [src] fun n => .int ((fun _ => (0 : Int)) n)))
    have hd1 := upd_same (H := H) (a := d) (o := .dK (kvF [src] fun n => .int ((fun _ => (0 : Int)) n)))
    generalize upd H d (.dK (kvF [src] fun n => .int ((fun _ => (0 : Int)) n))) = H1 at s1 hd1 ⊢
    dsimp only [List.set]
    have st0 : GS rows src 0 0 (gOf [src] fun _ => 0) := by
      have e : gOf [src] (fun _ => (0 : Int)) = fun v => if v = src then some 0 else none := by
        funext v
        unfold gOf
        by_cases c : v = src
        · rw [if_pos c, if_pos (List.mem_singleton.mpr c)]
        · rw [if_neg c, if_neg fun z => c (List.mem_singleton.mp z)]
      rw [e]; exact GS.start
    refine ⟨_, rfl, _, rfl, by omega, by omega, for_range (lo := 0) (n := ((n : Nat) : Int).toNat) (fun t σ' H' => ∃ (vis : List Str) (G : Str → Int) (x4 x5 x6 x7 x8 : Option V), σ' = [some (.str src), some (.ref lr), some (.int (n : Nat)), some (.ref d), x4, x5, x6, x7, x8] ∧ Same H H' ∧ H' d = some (.dK (kvF vis fun n => .int (G n))) ∧ vis.Nodup ∧ (∀ v ∈ vis, v ∈ ns) ∧ GS rows src t 0 (gOf vis G))
      ⟨[src], fun _ => 0, _, _, _, _, _, rfl, s1, hd1, List.pairwise_singleton _ _, fun v m => by rw [List.mem_singleton.mp m]; exact hs, st0⟩ ?_ (fun σ' H' z => ?_)⟩
    · rintro t σ' H' ht ⟨vis, G, x4, x5, x6, x7, x8, rfl, S, hD, vN, vI, R⟩
      refine ⟨_, rfl, lr, rfl, ⟨_, SqL.of (S _ _ hR.at_)⟩, for_it (walk_list (K := K) (a := lr) (xs := bs.map V.ref)) (fun j σ' H' => ∃ (vis : List Str) (G : Str → Int) (x5 x6 x7 x8 : Option V), σ' = [some (.str src), some (.ref lr), some (.int (n : Nat)), some (.ref d), some (.int (0 + (t : Int))), x5, x6, x7, x8] ∧ Same H H' ∧ H' d = some (.dK (kvF vis fun n => .int (G n))) ∧ vis.Nodup ∧ (∀ v ∈ vis, v ∈ ns) ∧ GS rows src t j (gOf vis G))
        ⟨vis, G, _, _, _, _, rfl, S, hD, vN, vI, R⟩ (fun j σ' H' _ ⟨_, _, _, _, _, _, _, z, _⟩ => SqL.of (z _ _ hR.at_)) ?_ (fun σ' H' z => ?_)⟩
      · clear hD vN vI R S hd1 s1 st0
        rintro j x σ' H' H'' hj ⟨vis, G, x5, x6, x7, x8, rfl, S, hD, vN, vI, R⟩ ⟨rfl, hx⟩
        rw [List.length_map, hR.len] at hj
        have hb : bs[j]? = some (bs.getD j 0) := by rw [List.getD_eq_getElem?_getD, List.getElem?_eq_getElem (by rw [hR.len]; exact hj)]; rfl
        rw [List.getElem?_map, hb] at hx
        cases hx
        have hq := stUp (hR.row j hj) S
        obtain ⟨m1, m2⟩ := hin _ (List.getElem_mem hj)
        refine ⟨_, _, rfl, hq, rfl, _, _, rfl, _, _, rfl, _, _, rfl, _, _, rfl, rfl, ?_⟩
        dsimp only [List.set]
        have v1 := (val_g (G := G) (v := rows[j].1) vN).symm
        have v2 := (val_g (G := G) (v := rows[j].2.1) vN).symm
        refine ⟨_, rfl, _, rfl, d, _, rfl, .inl ⟨_, .inr rows[j].1, .inl hD, rfl, v1⟩, _, rfl, ?_⟩
        cases e1 : gOf vis G rows[j].1 with
        | none => exact iteF (iteF ⟨vis, G, _, _, _, _, rfl, S, hD, vN, vI, R.skip hj fun x e => by rw [e1] at e; cases e⟩)
        | some x1 =>
          rw [e1] at v1
          have v1 : some (V.int x1) = _ := v1
          refine iteT ?_
          refine ⟨_, rfl, _, rfl, d, _, rfl, .inl ⟨_, .inr rows[j].2.1, .inl hD, rfl, v2⟩, _, rfl, ?_⟩
          cases e2 : gOf vis G rows[j].2.1 with
          | none =>
            refine iteT (iteT ?_)
            refine ⟨_, rfl, _, rfl, d, .int x1, rfl, .inl ⟨_, .inr rows[j].1, .inl hD, rfl, v1⟩, _, rfl, _, _, rfl, rfl, _, rfl, _, rfl, d, _, rfl, .inl ⟨_, .inr rows[j].2.1, hD, rfl, by rw [kvF_len]; exact Nat.lt_of_le_of_lt (Nat.le_trans (nodup_le vN vI) nl) (by decide), rfl⟩, ?_⟩
            rw [putK_I]
            obtain ⟨vN2, vI2⟩ := vis_put vN vI m2
            exact ⟨_, _, _, _, _, _, rfl, fun b o e => by rw [upd_ne (ne_of_none e nd)]; exact S _ _ e, upd_same, vN2, vI2, by rw [gOf_put]; exact R.less hj e1 (fun y e => by rw [e2] at e; cases e)⟩
          | some y1 =>
            rw [e2] at v2
            have v2 : some (V.int y1) = _ := v2
            refine iteF ⟨_, rfl, _, rfl, d, .int x1, rfl, .inl ⟨_, .inr rows[j].1, .inl hD, rfl, v1⟩, _, rfl, _, _, rfl, rfl, _, rfl, _, rfl, d, .int y1, rfl, .inl ⟨_, .inr rows[j].2.1, .inl hD, rfl, v2⟩, _, _, rfl, rfl, _, rfl, ite2 (fun c1 => ?_) (fun c1 => ?_)⟩
            · have c1 : x1 + rows[j].2.2 < y1 := of_decide_eq_true c1
              refine ⟨_, rfl, _, rfl, d, .int x1, rfl, .inl ⟨_, .inr rows[j].1, .inl hD, rfl, v1⟩, _, rfl, _, _, rfl, rfl, _, rfl, _, rfl, d, _, rfl, .inl ⟨_, .inr rows[j].2.1, hD, rfl, by rw [kvF_len]; exact Nat.lt_of_le_of_lt (Nat.le_trans (nodup_le vN vI) nl) (by decide), rfl⟩, ?_⟩
              rw [putK_I]
              obtain ⟨vN2, vI2⟩ := vis_put vN vI m2
              exact ⟨_, _, _, _, _, _, rfl, fun b o e => by rw [upd_ne (ne_of_none e nd)]; exact S _ _ e, upd_same, vN2, vI2, by rw [gOf_put]; exact R.less hj e1 (fun y e => by rw [e2] at e; cases e; exact c1)⟩
            · have c1 : ¬ x1 + rows[j].2.2 < y1 := fun z => c1 (decide_eq_true z)
              exact ⟨vis, G, _, _, _, _, rfl, S, hD, vN, vI, R.skip hj fun x e => by rw [e1] at e; cases e; exact ⟨y1, e2, Int.not_lt.mp c1⟩⟩
      · obtain ⟨vis, G, x5, x6, x7, x8, rfl, S, hD, vN, vI, R⟩ := z
        rw [List.length_map, hR.len] at R
        exact ⟨vis, G, _, _, _, _, _, rfl, S, hD, vN, vI, R.turn⟩
    · obtain ⟨vis, G, x4, x5, x6, x7, x8, rfl, S, hD, vN, vI, R⟩ := z
      exact ⟨_, rfl, k d vis G H' S nd hD vN vI (by simpa using R)⟩
end
end K5
set_option Elab.async false
set_option linter.all false
set_option maxRecDepth 100000
set_option maxHeartbeats 4000000
namespace K5
open PySem L2
local macro_rules | `(tactic| walk_at "rd1") => `(tactic| first
  | refine ⟨_, _, rfl, rfl, ?_⟩
  | refine ⟨_, _, _, _, rfl, rfl, SqL.of (by assumption), rfl, ?_⟩
  | refine ⟨_, _, _, _, rfl, rfl, (by assumption), rfl, ?_⟩
  | refine .inl ⟨_, rfl, ?_⟩
  | refine ⟨_, rfl, ?_⟩
  | refine ⟨(by unfold CMul; omega), ?_⟩
  | refine ⟨(by unfold CPow; omega), ?_⟩
  | refine ⟨(by (try dsimp only); omega), ?_⟩
  | refine ⟨(by unfold CDiv; omega), ?_⟩
  | fail "rd1")
local macro_rules | `(tactic| walk_at "rd") => `(tactic| repeat' (walk_at "rd1"))
open Own
section
variable {P : Program} {w : World} {K : PySem.W.Frag} {mg : Str → Option Value} {base : Heap} {A : Ad}
def ov : Option Int → V
  | some x => .int x
  | none => .non
def spLate (K : PySem.W.Frag) (CM CH : Addr) : Sp := fun vs H Q _ => ∃ (p b : Addr) (o : V) (ys : List Str) (hk : Str → Str) (W : Str → List Str) (lo hi : Str → Int) (ws : List (Mo × Mo × Int)) (es : List PyData) (ps : List (Str × Str)), vs = [.ref p, .ref b, o] ∧ MH K CM CH H p b o ys hk W lo hi ws es ps ∧ ws.length ≤ 100 ∧ ps.length ≤ 100 ∧
  (∀ (t : Addr) (L : Str → Int) (g : Str → Option Int) (H' : Hp), Same H H' → H t = none → H' t = some (.dK (kvF ys fun n => ov (g n))) → (∀ v, 0 ≤ L v) → KeptR (rowsOf ys hk W lo hi ws ps) L → (∀ v x, g v = some x → ∃ is, Pth (rowsOf ys hk W lo hi ws ps) "clock" is v x) → (∀ is v s, Pth (rowsOf ys hk W lo hi ws ps) "clock" is v s → ∃ x, g v = some x ∧ x ≤ s) → Q (.ref t) H') ∧
  (∀ is H', Same H H' → RingI (rowsOf ys hk W lo hi ws ps) is → Q .non H')
theorem ok_late (T : Txt K mg A) : FnOk P w K mg base CX0 9 A.a_latest A.d_latest P_latest (spLate K A.a_Meal A.a_Hanging) := by
  have G_least_sums : FnOk P w K mg base CX0 8 A.a_least_sums A.d_least_sums P_least_sums (spLeast K A.a_Meal A.a_Hanging) := ok_least T
  have G_Hanging_rows : FnOk P w K mg base CX0 1 A.a_Hanging_rows A.d_Hanging_rows P_Hanging_rows (spHRows A.a_Hanging) := ok_hrows T
  have G_all_rows : FnOk P w K mg base CX0 7 A.a_all_rows A.d_all_rows P_all_rows (spAllRows K A.a_Meal) := ok_allrows T
  have G_bounded : FnOk P w K mg base CX0 1 A.a_bounded A.d_bounded P_bounded (spBounded K) := ok_bounded T
  refine T.f_latest.ok sc_latest (fun vs H Q E h => ?_) (fun cdv A' outer s H vs Q E hr h => ?_)
  · obtain ⟨p, b, o, ys, hk, W, lo, hi, ws, es, ps, rfl, _⟩ := h
    rfl
  · obtain ⟨p, b, o, ys, hk, W, lo, hi, ws, es, ps, rfl, B, wl, pl, k1, k2⟩ := h
    refine ⟨_, (pss_cons (ps_asg (pe_call G_least_sums (hr.mono (by omega)) (by rfl) T.g_least_sums T.f_least_sums.kp T.b_least_sums .nil pass0 (pa_cons (pv 0) (pa_cons (pv 1) (pa_cons (pv 2) pa_nil)))) (pg_tup (by rfl) (pgs_cons (pg_name (i := 3) sc_latest.nd rfl (Or.inl rfl)) (pgs_cons (pg_name (i := 4) sc_latest.nd rfl (Or.inl rfl)) pgs_nil))))
 (pss_cons (ps_if (pt_cmpR op_isN (pv 3) pe_non (nomark _))
 (pss_one (ps_ret pe_non))
 pss_nil)
 (pss_cons (ps_set (i := 5) sc_latest.nd rfl (Or.inl rfl) (pe_meth0 (pv 1) T.cl T.m_rows G_Hanging_rows (hr.mono (by omega)) T.b_Hanging_rows .nil pass0))
 (pss_cons (ps_set (i := 6) sc_latest.nd rfl (Or.inr rfl) (pe_call G_bounded (hr.mono (by omega)) (by rfl) T.g_bounded T.f_bounded.kp T.b_bounded .nil pass0 (pa_cons (pe_glob (v := .str "clock") (by rfl) T.g_CLOCK.choose_spec ⟨_, rfl⟩) (pa_cons (pe_call G_all_rows (hr.mono (by omega)) (by rfl) T.g_all_rows T.f_all_rows.kp T.b_all_rows .nil pass0 (pa_cons (pv 0) (pa_cons (pv 5) (pa_cons (pv 2) pa_nil)))) (pa_cons (pe_callB call_lenD (by rfl) T.len PySem.boot_len (pa_cons (pv 5) pa_nil)) pa_nil)))))
 (pss_one (ps_ret (pe_lock (pe_dc (own := [("name", 7)]) (g := gName 7) (by rfl) sc_latest.nd (pi_keys (pv 5)) (blkOk_by (N := N_latest) (sc := defScope s_latest) (by decide +kernel)) (fun _ _ _ _ _ => pg_name (i := 7) sc_latest.nd rfl (Or.inl rfl)) (fun _ _ _ _ _ => pts_nil) (fun _ _ _ _ _ => (pv 7)) (fun _ _ _ _ _ => (pe_dget1 (hu_of hr) (pv 6) (pv 7) ⟨rfl, rfl, rfl, rfl⟩)))))))))), ?_⟩
    refine ⟨_, rfl, _, rfl, _, rfl, p, b, o, ys, hk, W, lo, hi, ws, es, ps, rfl, B, wl, pl, fun t dl L H1 s1 nt ndl ht hdl h0 hK hm => ?_, fun t lq bs lr nm is H1 s1 nt nlq ht hlq hR hN hI il => ?_⟩
    · refine ⟨t, _, rfl, SqT.of ht, rfl, _, _, rfl, _, _, rfl, rfl, ?_⟩
      have B1 := B.up s1
      obtain ⟨q, dy, hb, hg⟩ := hg_at B1.h
      obtain ⟨rk, hO⟩ := B.O
      have nclk : ("clock" : Str) ∉ ys := fun m => (hO.nm "clock" (by rw [ksR_F]; exact m)).1.noclock rfl
      have cN : (clkL ys).Nodup := List.nodup_cons.mpr ⟨nclk, B.nd⟩
      have cl : (clkL ys).length ≤ 64 := by have := B.len; rw [List.length_cons]; omega
      refine ⟨_, rfl, rfl, _, rfl, iteF ?_⟩
      refine ⟨_, rfl, b, dy, _, rfl, hb, rfl, b, q, _, rfl, hg, fun l2 nl2 => ?_⟩
      have s4 := Same.new nl2 (o := .dK (kvR (rowsF ys hk)))
      have hl2 := upd_same (H := H1) (a := l2) (o := .dK (kvR (rowsF ys hk)))
      have B4 := B1.up s4
      have S4 := s1.trans s4
      generalize upd H1 l2 (.dK (kvR (rowsF ys hk))) = H4 at hl2 B4 S4 ⊢
      dsimp only [List.set]
      have hl3 := hl2
      rw [kvR_F] at hl3
      refine ⟨_, rfl, _, rfl, _, rfl, p, l2, o, ys, hk, W, lo, hi, ws, es, ps, rfl, hl2, B4.m, B4.o, B.on, B.ok, B.nd, B.len, B.sok, B.W, wl, pl, fun lr2 bs2 nm2 H5 s5 nlr hR hN => ?_⟩
      have hl5 := s5 _ _ hl3
      have hll : (kvF ys fun n => V.str (hk n)).length = ys.length := kvF_len _ _
      refine ⟨_, rfl, l2, _, rfl, hl5, lr2, "clock", _, clkL ys, bs2, rowsOf ys hk W lo hi ws ps, nm2, rfl, by rw [hll]; have := B.len; omega, .head _, cl, hR, rowsOf_in (hk_in hO) B.on B.ok, fun d vis G H6 s6 nd hD vN vI R => ?_⟩
      obtain ⟨all, _⟩ := R.done hK (fun r m => (rowsOf_in (hk_in hO) B.on B.ok r m).2) (.head _) (by rw [hll]; exact Nat.le_refl _)
      have hl6 := s6 _ _ hl5
      have nld : l2 ≠ d := ne_of_none hl5 nd
      have S6 := S4.trans (s5.trans s6)
      have NL2 : H l2 = none := s1.free nl2
      refine ⟨l2, _, hl6, trivial, fun od => ?_⟩
      have hlF : upd H6 l2 (.frz od (.dK (kvF ys fun n => .str (hk n)))) l2 = some (.frz od (.dK (kvF ys fun n => .str (hk n)))) := upd_same
      have hDF : upd H6 l2 (.frz od (.dK (kvF ys fun n => .str (hk n)))) d = some (.dK (kvF vis fun n => .int (G n))) := by rw [upd_ne nld.symm]; exact hD
      have uF : ∀ H2, Same (upd H6 l2 (.frz od (.dK (kvF ys fun n => .str (hk n))))) H2 → Same H6 (upd H2 l2 (.dK (kvF ys fun n => .str (hk n)))) := fun H2 s => unfrz hl6 s
      have fF : ∀ D, upd H6 l2 (.frz od (.dK (kvF ys fun n => .str (hk n)))) D = none → H6 D = none ∧ D ≠ l2 := fun D h => by
        have : D ≠ l2 := fun e => by rw [e, hlF] at h; cases h
        rw [upd_ne this] at h
        exact ⟨h, this⟩
      generalize upd H6 l2 (.frz od (.dK (kvF ys fun n => .str (hk n)))) = F at hlF hDF uF fF ⊢
      refine ⟨_, rfl, l2, od, rfl, .inl ⟨_, hlF, fun D hDn => fillD walk_keys (fun i H' => Same F H' ∧ H' D = some (.dK (kvF (ys.take i) fun n => ov (gOf vis G n)))) ⟨Same.new hDn, upd_same⟩ (fun i H' _ z => z.1 _ _ hlF) ?_ (fun H7 z => ?_)⟩⟩
      · rintro i x H' H'' hi ⟨s7, hD7⟩ ⟨rfl, key, v, hkv, rfl⟩
        obtain ⟨hi1, rfl, rfl⟩ := kvF_at hkv
        have hv : ((gOf vis G ys[i]).map V.int).getD .non = ov (gOf vis G ys[i]) := by cases gOf vis G ys[i] <;> rfl
        refine ⟨rfl, _, rfl, _, rfl, d, rfl, .inl ⟨_, .inl (s7 _ _ hDF)⟩, _, rfl, _, .inl ⟨_, .inr ys[i], .inl (s7 _ _ hDF), rfl, (val_g vN).symm⟩, ?_⟩
        rw [hv]
        refine ⟨_, .inr ys[i], rfl, hD7, ?_, fun c u e => by rw [upd_ne (ne_of_none e hDn)]; exact s7 _ _ e, ?_⟩
        · rw [kvF_len, List.length_take]; exact Nat.lt_of_le_of_lt (show min i _ ≤ 64 by have := B.len; omega) (by decide)
        · rw [upd_same]
          exact congrArg (fun z => some (HO.dK z)) (putF_take (f := fun n => ov (gOf vis G n)) B.nd hi1)
      · obtain ⟨s7, hD7⟩ := z
        rw [kvF_len, List.take_length] at hD7
        obtain ⟨nD, nDl⟩ := fF D hDn
        exact ⟨s7 _ _ hlF, k1 D L (gOf vis G) _ (S6.trans (uF _ s7)) (S6.free nD) (by rw [upd_ne nDl]; exact hD7) h0 hK R.a all⟩
    · refine ⟨t, _, rfl, SqT.of ht, rfl, _, _, rfl, _, _, rfl, rfl, ?_⟩
      exact ⟨_, rfl, rfl, _, rfl, iteT (k2 is _ s1 hI)⟩
end
end K5
set_option Elab.async false
set_option linter.all false
set_option maxRecDepth 100000
set_option maxHeartbeats 4000000
namespace K5
open PySem L2
local macro_rules | `(tactic| walk_at "rd1") => `(tactic| first
  | refine ⟨_, _, rfl, rfl, ?_⟩
  | refine ⟨_, _, _, _, rfl, rfl, SqL.of (by assumption), rfl, ?_⟩
  | refine ⟨_, _, _, _, rfl, rfl, (by assumption), rfl, ?_⟩
  | refine .inl ⟨_, rfl, ?_⟩
  | refine ⟨_, rfl, ?_⟩
  | refine ⟨(by unfold CMul; omega), ?_⟩
  | refine ⟨(by unfold CPow; omega), ?_⟩
  | refine ⟨(by (try dsimp only); omega), ?_⟩
  | refine ⟨(by unfold CDiv; omega), ?_⟩
  | fail "rd1")
local macro_rules | `(tactic| walk_at "rd") => `(tactic| repeat' (walk_at "rd1"))
open Own
section
variable {P : Program} {w : World} {K : PySem.W.Frag} {mg : Str → Option Value} {base : Heap} {A : Ad}
structure BkR (C : Addr) (H : Hp) (p : Addr) (ys : List Str) (hk : Str → Str) (wt : Str → Int) : Prop where
  ex : ∃ dx qh qw, H p = some (.ins C dx [("hooks", .ref qh), ("waits", .ref qw)]) ∧ Rd H qh (.dK (kvF ys fun n => .str (hk n))) ∧ H qw = some (.dK (kvW ys wt))
theorem BkAt.locked {C : Addr} {H : Hp} {p qh : Addr} {ys : List Str} {hk hk0 : Str → Str} {wt : Str → Int} {od : Obj} (B : BkAt C H p ys hk wt) (hq : H qh = some (.dK (kvF ys fun n => .str (hk0 n)))) (nd : ys.Nodup) {n : Str} (m : n ∈ ys) : BkR C (upd H qh (.frz od (.dK (kvF ys fun n => .str (hk0 n))))) p ys hk wt := by
  obtain ⟨dx, qa, qw, h1, h2, h3⟩ := B.ex
  refine ⟨dx, qa, qw, by rw [upd_ne (fun e => by rw [e, hq] at h1; cases h1)]; exact h1, ?_, ?_⟩
  · by_cases e : qa = qh
    · subst e
      rw [hq] at h2
      rw [HO.dK.inj (Option.some.inj h2)]
      exact .inr ⟨od, upd_same⟩
    · exact .inl (by rw [upd_ne e]; exact h2)
  · rw [upd_ne fun e => ?_]
    · exact h3
    · rw [e, hq] at h3
      have e1 := HO.dK.inj (Option.some.inj h3)
      have v1 := kvF_val (f := fun n => V.str (hk0 n)) nd m
      rw [e1] at v1
      have v2 := kvF_val (f := fun n => V.int (wt n)) nd m
      rw [v2] at v1
      cases v1
theorem BkR.up {C : Addr} {H H' : Hp} {p : Addr} {ys : List Str} {hk : Str → Str} {wt : Str → Int} (B : BkR C H p ys hk wt) (s : Same H H') : BkR C H' p ys hk wt := by
  obtain ⟨dx, qa, qw, h1, h2, h3⟩ := B.ex
  exact ⟨dx, qa, qw, s _ _ h1, rdUp h2 s, s _ _ h3⟩
end
end K5
set_option Elab.async false
set_option linter.all false
set_option maxRecDepth 100000
set_option maxHeartbeats 4000000
namespace K5
open PySem L2
local macro_rules | `(tactic| walk_at "rd1") => `(tactic| first
  | refine ⟨_, _, rfl, rfl, ?_⟩
  | refine ⟨_, _, _, _, rfl, rfl, SqL.of (by assumption), rfl, ?_⟩
  | refine ⟨_, _, _, _, rfl, rfl, (by assumption), rfl, ?_⟩
  | refine .inl ⟨_, rfl, ?_⟩
  | refine ⟨_, rfl, ?_⟩
  | refine ⟨(by unfold CMul; omega), ?_⟩
  | refine ⟨(by unfold CPow; omega), ?_⟩
  | refine ⟨(by (try dsimp only); omega), ?_⟩
  | refine ⟨(by unfold CDiv; omega), ?_⟩
  | fail "rd1")
local macro_rules | `(tactic| walk_at "rd") => `(tactic| repeat' (walk_at "rd1"))
open Own
section
variable {P : Program} {w : World} {K : PySem.W.Frag} {mg : Str → Option Value} {base : Heap} {A : Ad}
/-- what a told book's sums say where some sums keep the rows -/
theorem KeptR.no_ring {rows : List Rw} {S : Str → Int} {is : List Nat} (h : KeptR rows S) (r : RingI rows is) : False := by
  obtain ⟨i, _, hi, n⟩ := r.breaks S
  exact n (h _ (List.getElem_mem hi))
/-- sums, nothing beside the dishes -/
def onlyS (ys : List Str) (S : Str → Int) (v : Str) : Int := if v ∈ clkL ys then S v else 0
theorem onlyS_in {ys : List Str} {S : Str → Int} {v : Str} (m : v ∈ clkL ys) : onlyS ys S v = S v := if_pos m
theorem KeptR.only {ys : List Str} {hk : Str → Str} {W : Str → List Str} {lo hi : Str → Int} {ws : List (Mo × Mo × Int)} {ps : List (Str × Str)} {S : Str → Int} (hh : ∀ n ∈ ys, hk n = "clock" ∨ hk n ∈ ys) (hon : ∀ w ∈ ws, w.1.on ys ∧ w.2.1.on ys) (hOk : OrdOk ys ps) (h : KeptR (rowsOf ys hk W lo hi ws ps) S) : KeptR (rowsOf ys hk W lo hi ws ps) (onlyS ys S) := fun r m => by
  obtain ⟨a, b⟩ := rowsOf_in hh hon hOk r m
  rw [onlyS_in a, onlyS_in b]
  exact h r m
end
end K5
set_option Elab.async false
set_option linter.all false
set_option maxRecDepth 100000
set_option maxHeartbeats 4000000
namespace K5
open PySem L2
local macro_rules | `(tactic| walk_at "rd1") => `(tactic| first
  | refine ⟨_, _, rfl, rfl, ?_⟩
  | refine ⟨_, _, _, _, rfl, rfl, SqL.of (by assumption), rfl, ?_⟩
  | refine ⟨_, _, _, _, rfl, rfl, (by assumption), rfl, ?_⟩
  | refine .inl ⟨_, rfl, ?_⟩
  | refine ⟨_, rfl, ?_⟩
  | refine ⟨(by unfold CMul; omega), ?_⟩
  | refine ⟨(by unfold CPow; omega), ?_⟩
  | refine ⟨(by (try dsimp only); omega), ?_⟩
  | refine ⟨(by unfold CDiv; omega), ?_⟩
  | fail "rd1")
local macro_rules | `(tactic| walk_at "rd") => `(tactic| repeat' (walk_at "rd1"))
open Own
section
variable {P : Program} {w : World} {K : PySem.W.Frag} {mg : Str → Option Value} {base : Heap} {A : Ad}
theorem RS.ringI {ns : List Str} {rows : List Rw} {L0 L : Str → Int} {t now : Nat} {cs : List Str} {C τ θ : Str → Nat} (h : RS ns rows L0 t rows.length L cs C τ θ now) (nd : ns.Nodup) (hN : ns.length = t + 1) (he : ∀ r ∈ rows, r.2.1 ∈ ns) {r : Str} (hr : θ r = t + 1) : ∃ is, RingI rows is := by
  obtain ⟨w1, d, d0, _, w2⟩ := h.way nd hN he hr
  generalize ea : itr (nxt rows C) cs.length r = at0 at w2
  have mat : ∀ j, itr (nxt rows C) j at0 ∈ cs := fun j => by rw [← ea, ← itr_add]; exact w1 _
  have w2 : itr (nxt rows C) d at0 = at0 := by rw [itr_add, ea] at w2; exact w2
  have walk : ∀ j, ∃ is s, Pth rows at0 is (itr (nxt rows C) j at0) s ∧ is.length = j ∧ ∀ i ∈ is, ∃ w ∈ cs, C w = i := fun j => by
    induction j with
    | zero => exact ⟨[], 0, .nil _, rfl, fun _ m => nomatch m⟩
    | succ j ih =>
      obtain ⟨is, s, p, l, c⟩ := ih
      obtain ⟨hi, h1, h2, _⟩ := h.step1 (mat j)
      have := p.snoc hi h1
      rw [← h2] at this
      refine ⟨_, _, this, by rw [List.length_append, l]; rfl, fun i m => ?_⟩
      rcases List.mem_append.mp m with m | m
      · exact c i m
      · rw [List.mem_singleton.mp m]; exact ⟨_, mat j, rfl⟩
  obtain ⟨is, s, p, l, c⟩ := walk d
  rw [w2] at p
  exact ⟨is, h.ring p (fun e => by rw [e] at l; simp at l; omega) c⟩
end
end K5
set_option Elab.async false
set_option linter.all false
set_option maxRecDepth 100000
set_option maxHeartbeats 4000000
namespace K5
open PySem L2
local macro_rules | `(tactic| walk_at "rd1") => `(tactic| first
  | refine ⟨_, _, rfl, rfl, ?_⟩
  | refine ⟨_, _, _, _, rfl, rfl, SqL.of (by assumption), rfl, ?_⟩
  | refine ⟨_, _, _, _, rfl, rfl, (by assumption), rfl, ?_⟩
  | refine .inl ⟨_, rfl, ?_⟩
  | refine ⟨_, rfl, ?_⟩
  | refine ⟨(by unfold CMul; omega), ?_⟩
  | refine ⟨(by unfold CPow; omega), ?_⟩
  | refine ⟨(by (try dsimp only); omega), ?_⟩
  | refine ⟨(by unfold CDiv; omega), ?_⟩
  | fail "rd1")
local macro_rules | `(tactic| walk_at "rd") => `(tactic| repeat' (walk_at "rd1"))
open Own
section
variable {P : Program} {w : World} {K : PySem.W.Frag} {mg : Str → Option Value} {base : Heap} {A : Ad}
/-- a list, loosely -/
def spLooseL (K : PySem.W.Frag) (n : Nat) : Sp := fun vs H Q _ => ∃ (st c t : Addr) (xs : List V) (ds : List PyData) (b : Int), vs = [.ref st, .ref t] ∧ Sta H st c b ∧ b + ((costAll ds : Int) + 1) ≤ 1000000 ∧ SqL K (er H st) t xs ∧ DpAll K (er H st) xs ds ∧ tqAll ds = true ∧ ds.length ≤ 64 ∧ PyData.depthAll ds < n ∧
  ∀ r d' L H', Gs st c H H' (b + ((costAll ds : Int) + 1)) → Lz (er H' st) r d' L → strip d' = .tuple ds → (∀ a ∈ L, er H st a = none) → Q r H'
theorem ok_looseL (T : Txt K mg A) (n : Nat) : FnOk P w K mg base CX0 (n + 2) A.a__law_loose A.d__law_loose P__law_loose (spLooseL K n) := by
  have G__law_loose : FnOk P w K mg base CX0 (n + 1) A.a__law_loose A.d__law_loose P__law_loose (spLoose K n) := ok_loose T n
  have G__law_take : FnOk P w K mg base CX0 1 A.a__law_take A.d__law_take P__law_take spTake := ok_take T
  refine T.f__law_loose.ok sc__law_loose (fun vs H Q E h => ?_) (fun cdv A' outer s H vs Q E hr h => ?_)
  · obtain ⟨st, c, t, xs, ds, b, rfl, _⟩ := h
    rfl
  · obtain ⟨st, c, t, xs, ds, b, rfl, S, hb, ha, hA, ht, dl, hd, k⟩ := h
    refine ⟨_, (pss_cons (ps_if (pt_val (pe_callB call_isiT (by rfl) T.isinstance (by decide +kernel) (pa_cons (pv 1) (pa_cons (pe_tup (pa_cons (pe_bltn (v := .ty "list") (u := .type "list") (by rfl) T.list (by decide +kernel) rfl) (pa_cons (pe_bltn (v := .ty "tuple") (u := .type "tuple") (by rfl) T.tuple (by decide +kernel) rfl) pa_nil))) pa_nil))))
 (pss_cons (ps_setLc (i := 2) (own := [("_law_x", 3)]) (g := gName 3)  (by rfl) sc__law_loose.nd rfl rfl (sw_true rfl rfl rfl (by decide +kernel)) (EnT.pi_or (pi_list (pv 1)) (pi_tup (pv 1))) (blkOk_by (N := N__law_loose) (sc := defScope s__law_loose) (by decide +kernel)) (fun _ _ _ _ _ => pg_name (i := 3) sc__law_loose.nd rfl (Or.inl rfl)) (fun _ _ _ _ _ => pts_nil) (fun _ _ _ _ _ => (pe_call G__law_loose (hr.mono (by omega)) (by rfl) T.g__law_loose T.f__law_loose.kp T.b__law_loose .nil pass0 (pa_cons (pv 0) (pa_cons (pv 3) pa_nil)))))
 (pss_one (ps_ret (pe_ifExp (pt_cmpR op_eq (pe_call G__law_take (hr.mono (by omega)) (by rfl) T.g__law_take T.f__law_take.kp T.b__law_take .nil pass0 (pa_cons (pv 0) (pa_cons pe_int pa_nil))) pe_int (nomark _)) (pv 2) (pe_callTy call_tuple_of (by rfl) T.tuple (by decide +kernel) (pa_cons (pv 2) pa_nil))))))
 pss_nil)
 (pss_one (ps_ret (pv 1)))), ?_⟩
    refine ⟨_, rfl, by show 2 ≤ sizeLine; decide, fun p hp => ?_⟩
    have ht1 := ht
    clear ht1
    have hl : xs.length = ds.length := dpLen hA
    have t0 : SqL K H t xs := sqUp ha (er_same _ _)
    have s1 : Same H (upd H p (.tup [.ty "list", .ty "tuple"])) := Same.new hp
    have hpt : upd H p (.tup [.ty "list", .ty "tuple"]) p = some (.tup [.ty "list", .ty "tuple"]) := upd_same
    have g1 := Gs.of_same S s1
    generalize upd H p (.tup [.ty "list", .ty "tuple"]) = H1 at s1 hpt g1 ⊢
    refine ⟨_, p, _, _, _, true, rfl, hpt, .cons (.ty _) (.cons (.ty _) .nil), tyL (sqUp t0 s1), kit2 (a := "list") (b := "list") (c := "tuple") (r := true) (s := false) (by decide +kernel) (by decide +kernel), _, rfl, iteT ?_⟩
    have A1 : DpAll K (er H1 st) xs ds := dpAllSame g1.same hA
    refine seq_or (H0 := er H1 st) (.inl (sqUp ha g1.same)) (er_same _ _) rfl fun J Gd wk hG => fun D hD => ?_
    have mD := g1.sta.ne hD
    have eD := er_none (st := st) hD
    refine lc_it wk (fun i H' => ∃ (acc : List V) (es : List PyData) (L : List Addr), er H' st D = some (.lst acc) ∧ LzAll (er (er H' st) D) acc es L ∧ stripAll es = ds.take i ∧ (∀ a ∈ L, er H st a = none) ∧ Gs st c H1 H' (b + (costAll (ds.take i) : Int)))
      ⟨[], [], [], er_of mD upd_same, .nil, rfl, (fun a m => by cases m), by simpa [costAll] using (Gs.refl g1.sta).new hD⟩ (fun i H' _ z => ?_) ?_ (fun H2 z => ?_)
    · obtain ⟨_, _, _, _, _, _, _, g⟩ := z
      exact hG _ (g.same.trans (er_same _ _))
    · rintro i x H' H'' hi ⟨acc, es, L, hD1, hZ, hS, hL, g⟩ ⟨rfl, hx⟩
      obtain ⟨d, hd1, hd2⟩ := dpGet A1 hx
      have hi2 : i < ds.length := (List.getElem?_eq_some_iff.mp hd1).1
      have ct := cost_take hd1
      have cl := cost_le ds (i + 1)
      have dd : d.depth < n := by
        have q := PyData.depth_le_depthAll ds d (List.mem_of_getElem? hd1)
        have q2 := hd
        omega
      refine ⟨rfl, _, rfl, _, rfl, st, c, x, d, _, rfl, g.sta, by omega, dpSame g.same hd2, tqAll_mem ht d (List.mem_of_getElem? hd1), dd, fun r d' L1 H2 g2 Z1 S1 F1 => ?_⟩
      have hD2 := g2.same _ _ hD1
      have Z := lzAllUp hZ (er_mono g2.same)
      have nD : D ∉ L1 := fun m => by rw [F1 _ m] at hD1; cases hD1
      have Z1 : Lz (er (er H2 st) D) r d' L1 := lzKeep Z1 fun b u e q => er_of (fun z => by
        rcases q with m | ⟨ys, rfl⟩
        · exact nD (by rw [← z]; exact m)
        · rw [z, hD2] at e; cases e) e
      have old : ∀ a ∈ L, a ∉ L1 := fun a m m1 => by
        obtain ⟨ys, e⟩ := lzAllAt hZ a m
        have e2 := (er_some e).2
        rw [F1 a m1] at e2; cases e2
      have al : acc.length ≤ 64 := by
        have q := lzLen hZ
        have q2 := congrArg List.length hS
        rw [stripAll_map, List.length_map, List.length_take] at q2
        omega
      refine ⟨acc, (er_same _ _) _ _ hD2, Nat.lt_of_le_of_lt al (by decide), acc ++ [r], es ++ [d'], L ++ L1, ?_, ?_, ?_, fun a m => ?_, ?_⟩
      · rw [er_updp mD, upd_same]
      · rw [er_updp mD, er_upd]
        exact lzSnoc Z1 Z old
      · rw [stripAll_map, List.map_append, ← stripAll_map, hS, List.take_succ, hd1, List.map_cons, List.map_nil, S1]; rfl
      · rcases List.mem_append.mp m with m | m
        · exact hL a m
        · exact (g1.same.trans g.same).free (F1 a m)
      · exact ((g.trans g2).set g1.sta.hc eD mD).le (by omega) (by omega)
    · obtain ⟨acc, es, L, hD1, hZ, hS, hL, g⟩ := z
      rw [hl, List.take_length] at hS g
      have nDL : D ∉ L := fun m => by
        obtain ⟨ys, e⟩ := lzAllAt hZ D m
        exact (er_some e).1 rfl
      have fD : er H st D = none := g1.same.free eD
      have lE : es.length ≤ 64 := by
        have q2 := congrArg List.length hS
        rw [stripAll_map, List.length_map] at q2
        omega
      have sS : strip (.list es) = .tuple ds ∧ strip (.tuple es) = .tuple ds := by simp [strip, hS]
      refine ⟨_, rfl, st, c, 2, _, rfl, g.sta, by omega, by omega, by omega, fun r o hr0 hr1 S3 => ?_⟩
      have g3 := g1.trans (g.trans (Gs.of_upd S3))
      rw [← er_upd H2 st o] at hD1 hZ
      generalize upd H2 st o = H3 at S3 g3 hD1 hZ ⊢
      have hZ3 : LzAll (er H3 st) acc es L := lzAllUp hZ (er_same _ _)
      refine ⟨rfl, _, rfl, ite2 (fun q => ?_) (fun q => ?_)⟩
      · exact ⟨_, rfl, k _ (.list es) (D :: L) H3 (g3.le (by omega) (by omega)) (.lst hD1 hZ3 nDL lE) sS.1 fun a m => (List.mem_cons.mp m).elim (fun e => by rw [e]; exact fD) (hL a)⟩
      · refine ⟨_, rfl, D, _, rfl, .inl ⟨SqL.of ((er_same _ _) _ _ hD1), fun l nl => ?_⟩⟩
        have ml := S3.ne nl
        exact k _ (.tuple es) L _ ((g3.new nl).le (by omega) (by omega)) (.tup (er_of ml upd_same) (lzAllUp hZ3 (er_mono (Same.new nl))) lE) sS.2 hL
/-- orders told loosely -/
theorem ord_two {H : Hp} {v : V} {d : PyData} {L : List Addr} {x y : Str} (h : Lz H v d L) (e : strip d = .tuple [.str x, .str y]) : ∃ b, v = V.ref b ∧ SqX K H b [.str x, .str y] := by
  have two : ∀ {xs : List V} {ds : List PyData} {M : List Addr}, LzAll H xs ds M → stripAll ds = [.str x, .str y] → xs = [.str x, .str y] := fun hA e => by
    cases hA with
    | nil => simp [stripAll] at e
    | cons h1 hA _ =>
      cases hA with
      | nil => simp [stripAll] at e
      | cons h2 hA _ =>
        cases hA with
        | cons h3 hA _ => simp [stripAll] at e
        | nil =>
          simp only [stripAll, List.cons.injEq, and_true] at e
          obtain ⟨e1, e2⟩ := e
          cases h1 with
          | str s =>
            cases h2 with
            | str z =>
              simp only [strip, PyData.str.injEq] at e1 e2
              rw [e1, e2]
            | int i => simp [strip] at e2
            | lst _ _ _ _ => simp [strip] at e2
            | tup _ _ _ => simp [strip] at e2
          | int i => simp [strip] at e1
          | lst _ _ _ _ => simp [strip] at e1
          | tup _ _ _ => simp [strip] at e1
  cases h with
  | str s => simp [strip] at e
  | int i => simp [strip] at e
  | lst h hA _ _ =>
    have e2 := two hA (by simpa [strip] using e)
    exact ⟨_, rfl, .inl (SqL.of (by rw [← e2]; exact h))⟩
  | tup h hA _ =>
    have e2 := two hA (by simpa [strip] using e)
    exact ⟨_, rfl, .inr (SqT.of (by rw [← e2]; exact h))⟩
theorem ord_all {H : Hp} : ∀ {ps : List (Str × Str)} {xs : List V} {ds : List PyData} {M : List Addr}, LzAll H xs ds M → stripAll ds = ps.map (fun p => .tuple [.str p.1, .str p.2]) → Paired (fun x (p : Str × Str) => ∃ b, x = V.ref b ∧ SqX K H b [.str p.1, .str p.2]) xs ps
  | [], _, _, _, .nil, _ => .nil
  | _ :: _, _, _, _, .nil, e => by simp [stripAll] at e
  | [], _, _, _, .cons _ _ _, e => by simp [stripAll] at e
  | p :: ps, _, _, _, .cons h hA _, e => by
    simp only [stripAll, List.map_cons, List.cons.injEq] at e
    exact .cons (ord_two h e.1) (ord_all hA e.2)
theorem ord_loose {H : Hp} {v : V} {d : PyData} {L : List Addr} {ps : List (Str × Str)} (h : Lz H v d L) (e : strip d = .tuple (ps.map fun p => .tuple [.str p.1, .str p.2])) : OrdV K H v ps := by
  cases h with
  | str s => simp [strip] at e
  | int i => simp [strip] at e
  | lst h hA _ _ => exact ⟨_, _, rfl, .inl (SqL.of h), ord_all hA (by simpa [strip] using e)⟩
  | tup h hA _ => exact ⟨_, _, rfl, .inr (SqT.of h), ord_all hA (by simpa [strip] using e)⟩
end
end K5
set_option Elab.async false
set_option linter.all false
set_option maxRecDepth 100000
set_option maxHeartbeats 4000000
namespace K5
open PySem L2
local macro_rules | `(tactic| walk_at "rd1") => `(tactic| first
  | refine ⟨_, _, rfl, rfl, ?_⟩
  | refine ⟨_, _, _, _, rfl, rfl, SqL.of (by assumption), rfl, ?_⟩
  | refine ⟨_, _, _, _, rfl, rfl, (by assumption), rfl, ?_⟩
  | refine .inl ⟨_, rfl, ?_⟩
  | refine ⟨_, rfl, ?_⟩
  | refine ⟨(by unfold CMul; omega), ?_⟩
  | refine ⟨(by unfold CPow; omega), ?_⟩
  | refine ⟨(by (try dsimp only); omega), ?_⟩
  | refine ⟨(by unfold CDiv; omega), ?_⟩
  | fail "rd1")
local macro_rules | `(tactic| walk_at "rd") => `(tactic| repeat' (walk_at "rd1"))
open Own
section
variable {P : Program} {w : World} {K : PySem.W.Frag} {mg : Str → Option Value} {base : Heap} {A : Ad}
theorem Pth.move {r1 r2 : List Rw} (h : ∀ r ∈ r1, r ∈ r2) {v u : Str} {is : List Nat} {s : Int} (p : Pth r1 v is u s) : ∃ is', Pth r2 v is' u s := by
  induction p with
  | nil v => exact ⟨[], .nil v⟩
  | @cons i is u s hi t ih =>
    obtain ⟨is', p'⟩ := ih
    obtain ⟨j, hj, e⟩ := List.getElem_of_mem (h _ (List.getElem_mem hi))
    rw [← e] at p' ⊢
    exact ⟨j :: is', .cons hj p'⟩
end
end K5
set_option Elab.async false
set_option linter.all false
set_option maxRecDepth 100000
set_option maxHeartbeats 4000000
namespace K5
open PySem L2
local macro_rules | `(tactic| walk_at "rd1") => `(tactic| first
  | refine ⟨_, _, rfl, rfl, ?_⟩
  | refine ⟨_, _, _, _, rfl, rfl, SqL.of (by assumption), rfl, ?_⟩
  | refine ⟨_, _, _, _, rfl, rfl, (by assumption), rfl, ?_⟩
  | refine .inl ⟨_, rfl, ?_⟩
  | refine ⟨_, rfl, ?_⟩
  | refine ⟨(by unfold CMul; omega), ?_⟩
  | refine ⟨(by unfold CPow; omega), ?_⟩
  | refine ⟨(by (try dsimp only); omega), ?_⟩
  | refine ⟨(by unfold CDiv; omega), ?_⟩
  | fail "rd1")
local macro_rules | `(tactic| walk_at "rd") => `(tactic| repeat' (walk_at "rd1"))
open Own
section
variable {P : Program} {w : World} {K : PySem.W.Frag} {mg : Str → Option Value} {base : Heap} {A : Ad}
theorem un65 {n : Nat} {A : Around} (r : Room n A) : A.units + 65 < cLine := by have := r.un; omega
theorem atI_m1 {α : Type} (xs : List α) (h : 0 < xs.length) : atI xs (-1) = xs[xs.length - 1]? := by
  unfold atI ixN
  rw [if_neg (by omega), if_pos (by omega)]
  show xs[((-1 : Int) + (xs.length : Int)).toNat]? = _
  congr 1
  omega
/-- rows that go round, with a sum below 0 -/
structure Cyc (rs : List Rw) : Prop where
  ne : 0 < rs.length
  last : ∀ (h : 0 < rs.length), rs[rs.length - 1].2.1 = rs[0].1
  next : ∀ k (h : k + 1 < rs.length), rs[k].2.1 = rs[k + 1].1
  neg : (rs.map fun r => r.2.2).sum < 0
theorem Pth.rows {rows : List Rw} {v u : Str} {is : List Nat} {s : Int} (p : Pth rows v is u s) : ∃ rs : List Rw, rs = is.map (fun i => rows.getD i ("", "", 0)) ∧ (rs.map fun r => r.2.2).sum = s ∧ (∀ (h : 0 < rs.length), rs[0].1 = v ∧ rs[rs.length - 1].2.1 = u) ∧ ∀ k (h : k + 1 < rs.length), rs[k].2.1 = rs[k + 1].1 := by
  induction p with
  | nil v => exact ⟨[], rfl, rfl, fun h => absurd h (Nat.lt_irrefl 0), fun k h => absurd h (Nat.not_lt_zero _)⟩
  | @cons i is u s hi t ih =>
    obtain ⟨rs, e, sm, hl, nx⟩ := ih
    refine ⟨rows[i] :: rs, by rw [e, List.map_cons, getD_of hi], by rw [List.map_cons, List.sum_cons, sm], fun h => ⟨rfl, ?_⟩, fun k h => ?_⟩
    · cases rs with
      | nil =>
        have en : is = [] := by simpa using e.symm
        subst en
        exact t.nil_inv.1
      | cons r0 rs0 => exact (hl (Nat.succ_pos _)).2
    · cases k with
      | zero => exact ((hl (by simpa using h)).1).symm
      | succ k => exact nx k (by simpa using h)
theorem RingI.cyc {rows : List Rw} {is : List Nat} (h : RingI rows is) : Cyc (is.map fun i => rows.getD i ("", "", 0)) := by
  obtain ⟨n, v, s, p, neg⟩ := h
  obtain ⟨rs, e, sm, hl, nx⟩ := p.rows
  rw [← e]
  have l0 : 0 < rs.length := by rw [e, List.length_map]; exact List.length_pos_iff.mpr n
  exact ⟨l0, fun _ => (hl l0).2.trans (hl l0).1.symm, nx, by rw [sm]; exact neg⟩
def rwD (r : Rw) : PyData := .tuple [.str r.1, .str r.2.1, .int r.2.2]
theorem rwD_all {H : Hp} {bs : List Addr} {rs : List Rw} (h : Paired (fun b r => SqT K H b (tupR r)) bs rs) : DpAll K H (bs.map V.ref) (rs.map rwD) := by
  induction h with
  | nil => exact .nil
  | cons h _ ih => exact .cons (.tup h (.cons (.str _) (.cons (.str _) (.cons (.int _) .nil)))) ih
theorem rwD_shaped {rs : List Rw} (h : ∀ r ∈ rs, PyData.strOk r.1 = true ∧ PyData.strOk r.2.1 = true) : SeqAt.shaped (.list (rs.map rwD)) = true := by
  have a : ∀ rs : List Rw, (∀ r ∈ rs, PyData.strOk r.1 = true ∧ PyData.strOk r.2.1 = true) → PyData.canLayAll0 (rs.map rwD) = true ∧ PyData.depthAll (rs.map rwD) ≤ 1 := fun rs => by
    induction rs with
    | nil => intro _; simp [PyData.canLayAll0, PyData.depthAll]
    | cons r rs ih =>
      intro h
      obtain ⟨i1, i2⟩ := ih fun r m => h r (.tail _ m)
      obtain ⟨h1, h2⟩ := h r (.head _)
      constructor
      · simp [PyData.canLayAll0, rwD, PyData.canLay0, h1, h2, i1]
      · simp only [List.map_cons, PyData.depthAll, rwD, PyData.depth]
        omega
  obtain ⟨a1, a2⟩ := a rs h
  simp only [SeqAt.shaped, PyData.canLay0, PyData.depth, Bool.and_eq_true]
  exact ⟨by simpa using a1, by simp; omega⟩
theorem rwD_none (rs : List Rw) : ((rs.map rwD).any fun z => PyData.eqv z .none) = false := by
  rw [List.any_eq_false]
  intro z hz
  obtain ⟨r, _, rfl⟩ := List.mem_map.mp hz
  simp [rwD, PyData.eqv]
def spRound (K : PySem.W.Frag) (CM : Addr) : Sp := fun vs H Q _ => ∃ (a dh p : Addr) (o : V) (xs : List V) (wds : List Wd) (ys : List Str) (hk : Str → Str) (W : Str → List Str) (lo hi : Str → Int) (ws : List (Mo × Mo × Int)) (es : List PyData) (ps : List (Str × Str)), vs = [.ref a, .ref dh, .ref p, o] ∧ SqX K H a xs ∧ Paired (fun x wd => RowV K H x wd) xs wds ∧ wds.length ≤ 64 ∧ (∀ wd ∈ wds, wd.on ys ws ps) ∧
  H dh = some (.dK (kvR (rowsF ys hk))) ∧ MlAt K CM H p ys lo hi (ws.map wiD) es ∧ OrdV K H o ps ∧ (∀ w ∈ ws, w.1.on ys ∧ w.2.1.on ys) ∧ OrdOk ys ps ∧ ys.Nodup ∧ ys.length < 64 ∧ (∀ n ∈ ys, PyData.strOk n = true) ∧ WaysOk ys hk W ∧ (∀ n ∈ ys, hk n = "clock" ∨ hk n ∈ ys) ∧
  Cyc (wds.map (Wd.row hk W lo hi ws ps)) ∧ ∀ H', Same H H' → Q (.bl true) H'
theorem ok_round (T : Txt K mg A) : FnOk P w K mg base CX0 7 A.a_goes_round A.d_goes_round P_goes_round (spRound K A.a_Meal) := by
  have G_is_list : FnOk P w K mg base CX0 1 A.a_is_list A.d_is_list P_is_list (spIsListX K) := ok_islistX T
  have G_found_row : FnOk P w K mg base CX0 6 A.a_found_row A.d_found_row P_found_row (spFoundRow K A.a_Meal) := ok_foundrow T
  refine T.f_goes_round.ok sc_goes_round (fun vs H Q E h => ?_) (fun cdv A' outer s H vs Q E hr h => ?_)
  · obtain ⟨a, dh, p, o, xs, wds, ys, hk, W, lo, hi, ws, es, ps, rfl, _⟩ := h
    rfl
  · obtain ⟨a, dh, p, o, xs, wds, ys, hk, W, lo, hi, ws, es, ps, rfl, ha, hA, wl, won, hh, M, hO, hon, hOk, nd, hl, ok, hW, hhk, cyc, k⟩ := h
    refine ⟨_, (pss_cons (ps_if (pt_not (pt_val (pe_call G_is_list (hr.mono (by omega)) (by rfl) T.g_is_list T.f_is_list.kp T.b_is_list .nil pass0 (pa_cons (pv 0) pa_nil))))
 (pss_one (ps_ret pe_bl))
 pss_nil)
 (pss_cons (ps_set (i := 4) sc_goes_round.nd rfl (Or.inr rfl) (pe_lc (own := [("row", 6)]) (g := gName 6) (by rfl) sc_goes_round.nd (EnT.pi_or (pi_list (pv 0)) (pi_tup (pv 0))) (blkOk_by (N := N_goes_round) (sc := defScope s_goes_round) (by decide +kernel)) (fun _ _ _ _ _ => pg_name (i := 6) sc_goes_round.nd rfl (Or.inl rfl)) (fun _ _ _ _ _ => pts_nil) (fun _ _ _ _ _ => (pe_call G_found_row (hr.mono (by omega)) (by rfl) T.g_found_row T.f_found_row.kp T.b_found_row .nil pass0 (pa_cons (pv 6) (pa_cons (pv 1) (pa_cons (pv 2) (pa_cons (pv 3) pa_nil))))))))
 (pss_cons (ps_if (pt_cmpR (op_inD (un65 hr)) pe_non (pv 4) (by rfl))
 (pss_one (ps_ret pe_bl))
 pss_nil)
 (pss_cons (ps_setLc (i := 5) (own := [("at", 7)]) (g := gName 7)  (by rfl) sc_goes_round.nd rfl rfl (sw_true rfl rfl rfl (by decide +kernel)) (pi_range1 (by rfl) T.range (pa_cons (pe_callB call_len_seq (by rfl) T.len PySem.boot_len (pa_cons (pv 4) pa_nil)) pa_nil)) (blkOk_by (N := N_goes_round) (sc := defScope s_goes_round) (by decide +kernel)) (fun _ _ _ _ _ => pg_name (i := 7) sc_goes_round.nd rfl (Or.inl rfl)) (fun _ _ _ _ _ => pts_nil) (fun _ _ _ _ _ => (pe_cmpR op_eq (pe_ix (Own.ixTupOf (K := K) rfl) (pe_ix (ixLOf (K := K) rfl) (pv 4) (pe_op op_sub (pv 7) pe_int) (fun _ _ => rfl)) pe_int (fun _ _ => rfl)) (pe_ix (Own.ixTupOf (K := K) rfl) (pe_ix (ixLOf (K := K) rfl) (pv 4) (pv 7) (fun _ _ => rfl)) pe_int (fun _ _ => rfl)) (nomark _))))
 (pss_one (ps_ret (pe_and (pe_callB (cr_all rfl) (by rfl) T.all (by decide +kernel) (pa_cons (pv 5) pa_nil)) (pe_one (pe_cmpR op_lt (pe_callB (cr_sum rfl) (by rfl) T.sum (by decide +kernel) (pa_cons (pe_lc (own := [("start", 8), ("end", 9), ("number", 10)]) (g := gTup K 3 (gCons (gName 8) (gCons (gName 9) (gCons (gName 10) gNil)))) (by rfl) sc_goes_round.nd (pi_list (pv 4)) (blkOk_by (N := N_goes_round) (sc := defScope s_goes_round) (by decide +kernel)) (fun _ _ _ _ _ => (pg_tup rfl (pgs_cons (pg_name (i := 8) sc_goes_round.nd rfl (Or.inl rfl)) (pgs_cons (pg_name (i := 9) sc_goes_round.nd rfl (Or.inl rfl)) (pgs_cons (pg_name (i := 10) sc_goes_round.nd rfl (Or.inl rfl)) pgs_nil))))) (fun _ _ _ _ _ => pts_nil) (fun _ _ _ _ _ => (pv 10))) pa_nil)) pe_int (nomark _)))))))))), ?_⟩
    refine ⟨_, rfl, _, rfl, .inl ⟨a, _, rfl, ha, fun H1 s1 => ⟨_, rfl, iteF ?_⟩⟩⟩
    have xl := hA.length
    refine seq_or (H0 := H) ha s1 rfl fun J Gd wk hG => fun D nD => ?_
    refine lc_it wk (fun m H' => Same H1 H' ∧ ∃ bs : List Addr, H' D = some (.lst (bs.map V.ref)) ∧ Paired (fun b r => SqT K H' b (tupR r)) bs ((wds.take m).map (Wd.row hk W lo hi ws ps))) ⟨Same.new nD, [], upd_same, .nil⟩ (fun m H' _ z => hG _ (s1.trans z.1)) ?_ (fun H2 z => ?_)
    · rintro m x H' H'' hm ⟨s2, bs, hD, hP⟩ ⟨rfl, hx⟩
      obtain ⟨wd, hwd, hr⟩ := paired_at hA hx
      have S2 := s1.trans s2
      have bl := hP.length
      rw [List.length_map, List.length_take] at bl
      refine ⟨rfl, _, rfl, _, rfl, _, rfl, _, rfl, x, dh, p, o, ys, hk, W, lo, hi, ws, es, ps, rfl, S2 _ _ hh, M.up S2, hO.up S2, hon, hOk, nd, hl, ok, hW, .inl ⟨wd, hr.up S2, won wd (List.mem_of_getElem? hwd), fun t H3 s3 nt ht => ?_⟩⟩
      have hD3 := s3 _ _ hD
      refine ⟨_, hD3, by rw [List.length_map]; exact Nat.lt_of_le_of_lt (show bs.length ≤ 64 by omega) (by decide), fun b u e => by rw [upd_ne (ne_of_none e nD)]; exact s3 _ _ (s2 _ _ e), bs ++ [t], by rw [upd_same, List.map_append]; rfl, ?_⟩
      rw [List.take_succ, hwd, List.map_append]
      exact paired_snoc (paired_imp (fun b (r : Rw) z => tupSet (xs := tupR r) hD3 (noTup_lst _) (stUp z s3)) hP) (tupSet hD3 (noTup_lst _) (SqT.of ht))
    obtain ⟨s2, bs, hD, hP⟩ := z
    rw [xl, List.take_length] at hP
    generalize hrs : wds.map (Wd.row hk W lo hi ws ps) = rs at hP cyc
    have rl : rs.length ≤ 64 := by rw [← hrs, List.length_map]; exact wl
    have bl : bs.length = rs.length := hP.length
    have rok : ∀ r ∈ rs, PyData.strOk r.1 = true ∧ PyData.strOk r.2.1 = true := fun r m => by
      rw [← hrs] at m
      obtain ⟨wd, m1, rfl⟩ := List.mem_map.mp m
      have in1 : wd.row hk W lo hi ws ps ∈ rowsOf ys hk W lo hi ws ps := List.mem_map.mpr ⟨wd, by
        have o := won wd m1
        unfold wdsOf
        cases wd with
        | wait n => exact List.mem_append_left _ (List.mem_append_left _ (List.mem_map.mpr ⟨n, o, rfl⟩))
        | wish q => exact List.mem_append_left _ (List.mem_append_right _ (List.mem_map.mpr ⟨q, List.mem_range.mpr o, rfl⟩))
        | order q => exact List.mem_append_right _ (List.mem_map.mpr ⟨q, List.mem_range.mpr o, rfl⟩), rfl⟩
      obtain ⟨a1, a2⟩ := rowsOf_in hhk hon hOk _ in1
      have okc : ∀ v ∈ clkL ys, PyData.strOk v = true := fun v q => by
        rcases List.mem_cons.mp q with rfl | q
        · decide +kernel
        · exact ok v q
      exact ⟨okc _ a1, okc _ a2⟩
    dsimp only [List.set]
    refine ⟨_, rfl, .none, rs.map rwD, .non, .lst (SqL.of hD) (rwD_all hP), by decide +kernel, rwD_shaped rok, _, rfl, ?_⟩
    rw [rwD_none]
    refine iteF ?_
    refine ⟨_, rfl, D, _, rfl, .inl (SqL.of hD), _, rfl, by rw [List.length_map]; omega, by rw [List.length_map]; omega, fun D2 nD2 => lc_it (walk_range (lo := 0) (n := (((bs.map V.ref).length : Nat) : Int).toNat)) (fun m G => Same H2 G ∧ G D2 = some (.lst (((List.range m).map fun _ => true).map V.bl))) ⟨Same.new nD2, upd_same⟩ (fun _ _ _ _ => trivial) ?_ (fun H3 z => ?_)⟩
    · rintro m x G G' hm ⟨s3, hD2⟩ ⟨rfl, rfl⟩
      have hm2 : m < rs.length := by rw [List.length_map] at hm; omega
      have hD3 := s3 _ _ hD
      have at0 : ∀ q (hq : q < rs.length), ∃ b, bs[q]? = some b ∧ SqT K G' b (tupR rs[q]) := fun q hq => by
        have hb : bs[q]? = some (bs[q]'(by omega)) := List.getElem?_eq_getElem (by omega)
        obtain ⟨r, h1, h2⟩ := paired_at hP hb
        rw [List.getElem?_eq_getElem hq] at h1
        cases h1
        exact ⟨_, hb, stUp h2 s3⟩
      obtain ⟨b1, hb1, q1⟩ := at0 m hm2
      obtain ⟨b, q, hq, hb, hz, e⟩ : ∃ (b : Addr) (q : Nat), ∃ hq : q < rs.length, SqT K G' b (tupR rs[q]) ∧ atI (bs.map V.ref) (0 + (m : Int) - 1) = some (.ref b) ∧ rs[q].2.1 = rs[m].1 := by
        cases m with
        | zero =>
          obtain ⟨b2, hb2, q2⟩ := at0 (rs.length - 1) (by omega)
          exact ⟨b2, _, by omega, q2, by rw [show (0 + ((0 : Nat) : Int) - 1) = -1 by omega, atI_m1 _ (by rw [List.length_map]; omega), List.length_map, bl, List.getElem?_map, hb2]; rfl, cyc.last (by omega)⟩
        | succ m =>
          obtain ⟨b2, hb2, q2⟩ := at0 m (by omega)
          exact ⟨b2, m, by omega, q2, at_of (j := m) (by omega) (by rw [List.getElem?_map, hb2]; rfl), cyc.next m hm2⟩
      refine ⟨rfl, _, rfl, _, rfl, _, _, rfl, rfl, _, _, _, _, rfl, rfl, SqL.of hD3, hz, _, _, _, _, rfl, rfl, hb, rfl, ?_⟩
      refine ⟨_, rfl, _, rfl, _, _, _, _, rfl, rfl, SqL.of hD3, at_of (j := m) (by omega) (by rw [List.getElem?_map, hb1]; rfl), _, _, _, _, rfl, rfl, q1, rfl, rfl, ?_⟩
      rw [e, decide_eq_true rfl]
      refine ⟨_, hD2, by rw [List.length_map, List.length_map, List.length_range]; exact Nat.lt_of_le_of_lt (show m ≤ 64 by omega) (by decide), fun b u e => by rw [upd_ne (ne_of_none e nD2)]; exact s3 _ _ e, ?_⟩
      rw [upd_same, List.range_succ, List.map_append, List.map_append]; rfl
    obtain ⟨s3, hD2⟩ := z
    dsimp only [List.set]
    refine ⟨_, rfl, D2, _, rfl, SqL.of hD2, _, rfl, ?_⟩
    rw [show (((List.range _).map fun _ => true).all id) = true from List.all_eq_true.mpr fun b m => by obtain ⟨_, _, rfl⟩ := List.mem_map.mp m; rfl]
    refine iteT ?_
    have hD3 := s3 _ _ hD
    have hP3 := paired_imp (fun b (r : Rw) z => stUp (xs := tupR r) z s3) hP
    refine ⟨_, rfl, D, rfl, ⟨_, SqL.of hD3⟩, fun D4 nD4 => lc_it (walk_list (K := K) (a := D) (xs := bs.map V.ref)) (fun m G => Same H3 G ∧ G D4 = some (.lst (((rs.take m).map fun r => r.2.2).map V.int))) ⟨Same.new nD4, upd_same⟩ (fun m G _ z => SqL.of (z.1 _ _ hD3)) ?_ (fun H4 z => ?_)⟩
    · rintro m x G G' hm ⟨s4, hD4⟩ ⟨rfl, hx⟩
      rw [List.length_map] at hm
      obtain ⟨b0, hb0, rfl⟩ : ∃ b0, bs[m]? = some b0 ∧ x = .ref b0 := by
        rw [List.getElem?_map, List.getElem?_eq_getElem hm] at hx
        exact ⟨bs[m], List.getElem?_eq_getElem hm, (Option.some.inj hx).symm⟩
      obtain ⟨r, hr, hb⟩ := paired_at hP3 hb0
      refine ⟨b0, _, rfl, stUp hb s4, rfl, _, _, rfl, _, _, rfl, _, _, rfl, rfl, rfl, _, rfl, _, hD4, ?_, fun b u e => by rw [upd_ne (ne_of_none e nD4)]; exact s4 _ _ e, ?_⟩
      · rw [List.length_map, List.length_map, List.length_take]; exact Nat.lt_of_le_of_lt (show min m rs.length ≤ 64 by omega) (by decide)
      · rw [upd_same, List.take_succ, hr, List.map_append, List.map_append]; rfl
    obtain ⟨s4, hD4⟩ := z
    rw [List.length_map, bl, List.take_length] at hD4
    refine ⟨D4, _, rfl, SqL.of hD4, _, _, rfl, rfl, ?_⟩
    show Q (.bl (decide ((rs.map fun r => r.2.2).sum < 0))) H4
    rw [decide_eq_true cyc.neg]
    exact k H4 (((s1.trans s2).trans s3).trans s4)
def spIsRing (K : PySem.W.Frag) (CM CH : Addr) : Sp := fun vs H Q _ => ∃ (p b a : Addr) (o : V) (xs : List V) (wds : List Wd) (ys : List Str) (hk : Str → Str) (W : Str → List Str) (lo hi : Str → Int) (ws : List (Mo × Mo × Int)) (es : List PyData) (ps : List (Str × Str)), vs = [.ref p, .ref b, o, .ref a] ∧ MH K CM CH H p b o ys hk W lo hi ws es ps ∧ SqX K H a xs ∧ Paired (fun x wd => RowV K H x wd) xs wds ∧ wds.length ≤ 64 ∧ (∀ wd ∈ wds, wd.on ys ws ps) ∧
  Cyc (wds.map (Wd.row hk W lo hi ws ps)) ∧ ∀ H', Same H H' → Q (.bl true) H'
theorem ok_isring (T : Txt K mg A) : FnOk P w K mg base CX0 8 A.a_is_ring A.d_is_ring P_is_ring (spIsRing K A.a_Meal A.a_Hanging) := by
  have G_check_same : FnOk P w K mg base CX0 6 A.a_check_same A.d_check_same P_check_same (spSameHD K A.a_Meal A.a_Hanging) := ok_chksameH T
  have G_check_orders : FnOk P w K mg base CX0 3 A.a_check_orders A.d_check_orders P_check_orders (spChkOrd K) := ok_chkord T
  have G_goes_round : FnOk P w K mg base CX0 7 A.a_goes_round A.d_goes_round P_goes_round (spRound K A.a_Meal) := ok_round T
  have G_Meal_dishes : FnOk P w K mg base CX0 1 A.a_Meal_dishes A.d_Meal_dishes P_Meal_dishes (spMDishes K A.a_Meal) := ok_mdishes T
  have G_Hanging_rows : FnOk P w K mg base CX0 1 A.a_Hanging_rows A.d_Hanging_rows P_Hanging_rows (spHRows A.a_Hanging) := ok_hrows T
  refine T.f_is_ring.ok sc_is_ring (fun vs H Q E h => ?_) (fun cdv A' outer s H vs Q E hr h => ?_)
  · obtain ⟨p, b, a, o, xs, wds, ys, hk, W, lo, hi, ws, es, ps, rfl, _⟩ := h
    rfl
  · obtain ⟨p, b, a, o, xs, wds, ys, hk, W, lo, hi, ws, es, ps, rfl, B, ha, hA, wl, won, cyc, k⟩ := h
    refine ⟨_, (pss_cons (ps_expr (pe_call G_check_same (hr.mono (by omega)) (by rfl) T.g_check_same T.f_check_same.kp T.b_check_same .nil pass0 (pa_cons (pv 0) (pa_cons (pv 1) pa_nil))))
 (pss_cons (ps_expr (pe_call G_check_orders (hr.mono (by omega)) (by rfl) T.g_check_orders T.f_check_orders.kp T.b_check_orders .nil pass0 (pa_cons (pv 2) (pa_cons (pe_meth0 (pv 0) T.cl_M T.m_dishes G_Meal_dishes (hr.mono (by omega)) T.b_Meal_dishes .nil pass0) pa_nil))))
 (pss_one (ps_ret (pe_call G_goes_round (hr.mono (by omega)) (by rfl) T.g_goes_round T.f_goes_round.kp T.b_goes_round .nil pass0 (pa_cons (pv 3) (pa_cons (pe_meth0 (pv 1) T.cl T.m_rows G_Hanging_rows (hr.mono (by omega)) T.b_Hanging_rows .nil pass0) (pa_cons (pv 0) (pa_cons (pv 2) pa_nil))))))))), ?_⟩
    refine ⟨_, rfl, _, rfl, p, b, ys, ys, lo, hi, _, es, hk, rfl, B.m, B.h, B.len, B.sok, B.sok, rfl, fun H1 s1 => ?_⟩
    have B1 := B.up s1
    obtain ⟨dx, qb, qw, qp, kvs, us, uq, hp, _⟩ := id B1.m.ex
    refine ⟨_, rfl, _, rfl, p, dx, _, rfl, hp, rfl, p, ys, lo, hi, _, es, rfl, B1.m, fun l H2 kv nl s2 hl hP => ?_⟩
    have B2 := B1.up s2
    refine ⟨o, l, ps, kv, ys, rfl, B2.o, .inl hl, hP.keys, B.ok, fun H3 s3 => ?_⟩
    have B3 := B2.up s3
    have S3 := (s1.trans s2).trans s3
    clear hl hP nl hp
    obtain ⟨q, dy, hb, hg⟩ := hg_at B3.h
    obtain ⟨rk, hO⟩ := B.O
    refine ⟨_, rfl, _, rfl, b, dy, _, rfl, hb, rfl, b, q, _, rfl, hg, fun l2 nl2 => ?_⟩
    have s4 := Same.new nl2 (o := .dK (kvR (rowsF ys hk)))
    exact ⟨_, rfl, _, rfl, a, l2, p, o, xs, wds, ys, hk, W, lo, hi, ws, es, ps, rfl, sxUp ha (S3.trans s4), paired_imp (fun x wd z => z.up (S3.trans s4)) hA, wl, won, upd_same, B3.m.up s4, B3.o.up s4, B.on, B.ok, B.nd, B.len, B.sok, B.W, hk_in hO, cyc, fun H' s => k H' ((S3.trans s4).trans s)⟩
theorem WdL.rowv {H : Hp} {l : Addr} {wds : List Wd} (h : WdL K H l wds) : ∃ xs : List V, SqX K H l xs ∧ Paired (fun x wd => RowV K H x wd) xs wds := by
  obtain ⟨bs, h1, h2⟩ := h
  refine ⟨bs.map V.ref, .inl (SqL.of h1), ?_⟩
  clear h1
  induction h2 with
  | nil => exact .nil
  | cons h _ ih => exact .cons ⟨_, rfl, .inr h⟩ ih
end
end K5
set_option Elab.async false
set_option linter.all false
set_option maxRecDepth 100000
set_option maxHeartbeats 4000000
namespace K5
open PySem L2
local macro_rules | `(tactic| walk_at "rd1") => `(tactic| first
  | refine ⟨_, _, rfl, rfl, ?_⟩
  | refine ⟨_, _, _, _, rfl, rfl, SqL.of (by assumption), rfl, ?_⟩
  | refine ⟨_, _, _, _, rfl, rfl, (by assumption), rfl, ?_⟩
  | refine .inl ⟨_, rfl, ?_⟩
  | refine ⟨_, rfl, ?_⟩
  | refine ⟨(by unfold CMul; omega), ?_⟩
  | refine ⟨(by unfold CPow; omega), ?_⟩
  | refine ⟨(by (try dsimp only); omega), ?_⟩
  | refine ⟨(by unfold CDiv; omega), ?_⟩
  | fail "rd1")
local macro_rules | `(tactic| walk_at "rd") => `(tactic| repeat' (walk_at "rd1"))
open Own
section
variable {P : Program} {w : World} {K : PySem.W.Frag} {mg : Str → Option Value} {base : Heap} {A : Ad}
def byR (k : Int) (r : Rw) : Rw := (r.1, r.2.1, r.2.2 * k)
theorem Pth.scale {rows : List Rw} {k : Int} {v u : Str} {is : List Nat} {s : Int} (p : Pth rows v is u s) : Pth (rows.map (byR k)) v is u (s * k) := by
  induction p with
  | nil v => rw [Int.zero_mul]; exact .nil v
  | @cons i is u s hi t ih =>
    have hi2 : i < (rows.map (byR k)).length := by rw [List.length_map]; exact hi
    have e : (rows.map (byR k))[i] = byR k rows[i] := List.getElem_map ..
    have t2 : Pth (rows.map (byR k)) (rows.map (byR k))[i].2.1 is u (s * k) := by rw [e]; exact ih
    have := Pth.cons hi2 t2
    rw [e] at this
    rw [Int.add_mul]
    exact this
theorem Pth.unscale {rows : List Rw} {k : Int} {v u : Str} {is : List Nat} {s : Int} (p : Pth (rows.map (byR k)) v is u s) : ∃ s', Pth rows v is u s' ∧ s = s' * k := by
  generalize hr : rows.map (byR k) = rows2 at p
  induction p with
  | nil v => exact ⟨0, .nil v, (Int.zero_mul k).symm⟩
  | @cons i is u s hi t ih =>
    obtain ⟨s', p', e'⟩ := ih
    subst hr
    have hi2 : i < rows.length := by rw [List.length_map] at hi; exact hi
    have e : (rows.map (byR k))[i] = byR k rows[i] := List.getElem_map ..
    rw [e] at p' ⊢
    exact ⟨_, .cons hi2 p', by rw [e', Int.add_mul]; rfl⟩
theorem RingI.scale {rows : List Rw} {k : Int} (k0 : 0 < k) {is : List Nat} : RingI (rows.map (byR k)) is ↔ RingI rows is := by
  constructor
  · rintro ⟨n, v, s, p, neg⟩
    obtain ⟨s', p', e⟩ := p.unscale
    refine ⟨n, v, s', p', Decidable.byContradiction fun c => ?_⟩
    have := Int.mul_nonneg (show 0 ≤ s' by omega) (Int.le_of_lt k0)
    omega
  · rintro ⟨n, v, s, p, neg⟩
    exact ⟨n, v, s * k, p.scale, Int.mul_neg_of_neg_of_pos neg k0⟩
theorem KeptR.scale {rows : List Rw} {k : Int} (k0 : 0 < k) {L : Str → Int} (h : KeptR rows L) : KeptR (rows.map (byR k)) (fun v => L v * k) := fun r m => by
  obtain ⟨r0, m0, rfl⟩ := List.mem_map.mp m
  have := h r0 m0
  show L r0.2.1 * k - r0.2.2 * k ≤ L r0.1 * k
  rw [← Int.sub_mul]
  exact Int.mul_le_mul_of_nonneg_right this (Int.le_of_lt k0)
theorem KeptR.unscale {rows : List Rw} {k : Int} (k0 : 0 < k) {L : Str → Int} (h : KeptR (rows.map (byR k)) L) : KeptR rows (fun v => L v / k) := fun r m => by
  have := h (byR k r) (List.mem_map.mpr ⟨r, m, rfl⟩)
  have this : L r.2.1 - r.2.2 * k ≤ L r.1 := this
  show L r.2.1 / k - r.2.2 ≤ L r.1 / k
  have e : (L r.2.1 - r.2.2 * k) / k = L r.2.1 / k - r.2.2 := by
    rw [Int.sub_eq_add_neg, ← Int.neg_mul, Int.add_mul_ediv_right _ _ (by omega)]
    omega
  rw [← e]
  exact Int.ediv_le_ediv k0 this
end
end K5
set_option Elab.async false
set_option linter.all false
set_option maxRecDepth 100000
set_option maxHeartbeats 4000000
namespace K5
open PySem L2
local macro_rules | `(tactic| walk_at "rd1") => `(tactic| first
  | refine ⟨_, _, rfl, rfl, ?_⟩
  | refine ⟨_, _, _, _, rfl, rfl, SqL.of (by assumption), rfl, ?_⟩
  | refine ⟨_, _, _, _, rfl, rfl, (by assumption), rfl, ?_⟩
  | refine .inl ⟨_, rfl, ?_⟩
  | refine ⟨_, rfl, ?_⟩
  | refine ⟨(by unfold CMul; omega), ?_⟩
  | refine ⟨(by unfold CPow; omega), ?_⟩
  | refine ⟨(by (try dsimp only); omega), ?_⟩
  | refine ⟨(by unfold CDiv; omega), ?_⟩
  | fail "rd1")
local macro_rules | `(tactic| walk_at "rd") => `(tactic| repeat' (walk_at "rd1"))
open Own
section
variable {P : Program} {w : World} {K : PySem.W.Frag} {mg : Str → Option Value} {base : Heap} {A : Ad}
theorem pr_dp {E : Hp} : ∀ {bs : List Addr} {ps : List (Str × Str)}, Paired (fun b (p : Str × Str) => SqT K E b [.str p.1, .str p.2]) bs ps → DpAll K E (bs.map V.ref) (ps.map fun p => .tuple [.str p.1, .str p.2])
  | _, _, .nil => .nil
  | _, _, .cons h t => .cons (.tup h (.cons (.str _) (.cons (.str _) .nil))) (pr_dp t)
theorem pr_tq : ∀ ps : List (Str × Str), tqAll (ps.map fun p => PyData.tuple [.str p.1, .str p.2]) = true
  | [] => rfl
  | p :: ps => by simp [tqAll, tq, pr_tq ps]
theorem pr_dep : ∀ ps : List (Str × Str), PyData.depthAll (ps.map fun p => PyData.tuple [.str p.1, .str p.2]) < 2
  | [] => by simp [PyData.depthAll]
  | p :: ps => by
    have := pr_dep ps
    simp only [List.map_cons, PyData.depthAll, PyData.depth]
    omega
theorem pr_cost : ∀ ps : List (Str × Str), costAll (ps.map fun p => PyData.tuple [.str p.1, .str p.2]) = ps.length
  | [] => rfl
  | p :: ps => by
    have := pr_cost ps
    simp only [List.map_cons, costAll, cost, List.length_cons, this]
    omega
/-- a ring, its first row put at the end -/
theorem Cyc.turn {r : Rw} {t : List Rw} (h : Cyc (r :: t)) : Cyc (t ++ [r]) := by
  refine ⟨by simp, fun h0 => ?_, fun k hk => ?_, ?_⟩
  · cases t with
    | nil => exact h.last (by simp)
    | cons q t =>
      have := h.next 0 (by simp)
      simpa using this
  · rw [List.length_append, List.length_singleton] at hk
    have hk1 : k < t.length := by omega
    have e1 : (t ++ [r])[k]'(by simp; omega) = t[k] := List.getElem_append_left hk1
    rw [e1]
    by_cases e : k + 1 < t.length
    · have e2 : (t ++ [r])[k + 1]'(by simp; omega) = t[k + 1] := List.getElem_append_left e
      rw [e2]
      exact h.next (k + 1) (by simp; omega)
    · have ek : k + 1 = t.length := by omega
      have e2 : (t ++ [r])[k + 1]'(by simp; omega) = r := by simp [ek]
      rw [e2]
      have := h.last (by simp)
      have e3 : (r :: t)[(r :: t).length - 1]'(by simp) = t[k] := by
        have e : (r :: t).length - 1 = k + 1 := by simp; omega
        simp only [e]
        rfl
      rw [e3] at this
      simpa using this
  · have := h.neg
    simp only [List.map_cons, List.sum_cons] at this
    simp only [List.map_append, List.map_cons, List.map_nil, List.sum_append, List.sum_cons, List.sum_nil]
    omega
end
end K5
set_option Elab.async false
set_option linter.all false
set_option maxRecDepth 100000
set_option maxHeartbeats 4000000
namespace K5
open PySem L2
local macro_rules | `(tactic| walk_at "rd1") => `(tactic| first
  | refine ⟨_, _, rfl, rfl, ?_⟩
  | refine ⟨_, _, _, _, rfl, rfl, SqL.of (by assumption), rfl, ?_⟩
  | refine ⟨_, _, _, _, rfl, rfl, (by assumption), rfl, ?_⟩
  | refine .inl ⟨_, rfl, ?_⟩
  | refine ⟨_, rfl, ?_⟩
  | refine ⟨(by unfold CMul; omega), ?_⟩
  | refine ⟨(by unfold CPow; omega), ?_⟩
  | refine ⟨(by (try dsimp only); omega), ?_⟩
  | refine ⟨(by unfold CDiv; omega), ?_⟩
  | fail "rd1")
local macro_rules | `(tactic| walk_at "rd") => `(tactic| repeat' (walk_at "rd1"))
open Own
section
variable {P : Program} {w : World} {K : PySem.W.Frag} {mg : Str → Option Value} {base : Heap} {A : Ad}
theorem fnLift {CX : CXT} {k : Nat} {f : Addr} {fd : FuncData} {ps : List Str} {sp : Sp} (F : FnOk P w K mg base CX0 k f fd ps sp) : FnOk P w K mg base CX k f fd ps sp :=
  ⟨F.len, fun A outer s H args us vs Q E hr e b v h => codeAny_mono (F.run A outer s H args us vs Q E hr e b v h) fun r s' q => by
    cases r with
    | error e => exact False.elim q
    | ok fl => cases fl <;> exact q⟩
/-- no name of a dish -/
def NoDV (K : PySem.W.Frag) (H : Hp) (ks : List Str) (x : V) : Prop := (∃ s, x = .str s ∧ s ∉ ks) ∨ ∃ t, TyX K H x (.type t) ∧ kitB t "str" = some false
theorem NoDV.up {H H' : Hp} {ks : List Str} {x : V} (h : NoDV K H ks x) (s : Same H H') : NoDV K H' ks x := h.imp_right fun ⟨t, a, b⟩ => ⟨t, tyXSame s a, b⟩
/-- no pair of unlike dishes -/
inductive OddO (K : PySem.W.Frag) (H : Hp) (ks : List Str) : V → Prop
  | no {x : V} {t : String} (h : TyX K H x (.type t)) (h1 : kitB t "list" = some false) (h2 : kitB t "tuple" = some false) : OddO K H ks x
  | len {a : Addr} {xs : List V} (h : SqX K H a xs) (l : xs.length ≠ 2) : OddO K H ks (.ref a)
  | one {a : Addr} {u v : V} (h : SqX K H a [u, v]) (n : NoDV K H ks u) : OddO K H ks (.ref a)
  | two {a : Addr} {s : Str} {v : V} (h : SqX K H a [.str s, v]) (m : s ∈ ks) (n : NoDV K H ks v) : OddO K H ks (.ref a)
  | same {a : Addr} {s : Str} (h : SqX K H a [.str s, .str s]) (m : s ∈ ks) : OddO K H ks (.ref a)
theorem OddO.up {H H' : Hp} {ks : List Str} {x : V} (h : OddO K H ks x) (s : Same H H') : OddO K H' ks x := by
  cases h with
  | no h h1 h2 => exact .no (tyXSame s h) h1 h2
  | len h l => exact .len (sxUp h s) l
  | one h n => exact .one (sxUp h s) (n.up s)
  | two h m n => exact .two (sxUp h s) m (n.up s)
  | same h m => exact .same (sxUp h s) m
def spIsOrderF (K : PySem.W.Frag) : Sp := fun vs H Q _ => ∃ (x : V) (dd : Addr) (kvs : List (Key × V)) (ks : List Str), vs = [x, .ref dd] ∧ OddO K H ks x ∧ Rd H dd (.dK kvs) ∧ kvs.map (·.1) = ks.map Sum.inr ∧ ∀ H', Same H H' → Q (.bl false) H'
theorem ok_isorderF (T : Txt K mg A) : FnOk P w K mg base CX0 2 A.a_is_order A.d_is_order P_is_order (spIsOrderF K) := by
  have G_is_list : FnOk P w K mg base CX0 1 A.a_is_list A.d_is_list P_is_list (spIsListX K) := ok_islistX T
  have G_is_dish : FnOk P w K mg base CX0 1 A.a_is_dish A.d_is_dish P_is_dish (spIsDish K) := ok_isdish T
  refine T.f_is_order.ok sc_is_order (fun vs H Q E h => ?_) (fun cdv A' outer s H vs Q E hr h => ?_)
  · obtain ⟨x, dd, kvs, ks, rfl, _⟩ := h
    rfl
  · obtain ⟨x, dd, kvs, ks, rfl, ho, hd, hk, k⟩ := h
    refine ⟨_, (pss_cons (ps_if (PW.pt (pw_or (pt_not (pt_val (pe_call G_is_list (hr.mono (by omega)) (by rfl) T.g_is_list T.f_is_list.kp T.b_is_list .nil pass0 (pa_cons (pv 0) pa_nil)))) (pw_or1 (pt_cmpR op_ne (pe_callB call_len_seq (by rfl) T.len PySem.boot_len (pa_cons (pv 0) pa_nil)) pe_int (nomark _)))))
 (pss_one (ps_ret pe_bl))
 pss_nil)
 (pss_cons (ps_asg (pv 0) (Own.pg_lt (by rfl) (pgs_cons (pg_name (i := 2) sc_is_order.nd rfl (Or.inl rfl)) (pgs_cons (pg_name (i := 3) sc_is_order.nd rfl (Or.inl rfl)) pgs_nil))))
 (pss_one (ps_ret (pe_and (pe_call G_is_dish (hr.mono (by omega)) (by rfl) T.g_is_dish T.f_is_dish.kp T.b_is_dish .nil pass0 (pa_cons (pv 2) (pa_cons (pv 1) pa_nil))) (pe_and (pe_call G_is_dish (hr.mono (by omega)) (by rfl) T.g_is_dish T.f_is_dish.kp T.b_is_dish .nil pass0 (pa_cons (pv 3) (pa_cons (pv 1) pa_nil))) (pe_one (pe_cmpR op_ne (pv 2) (pv 3) (nomark _))))))))), ?_⟩
    cases ho with
    | no ht h1 h2 => exact ⟨_, rfl, _, rfl, .inr ⟨_, ht, h1, h2, fun H1 s1 => ⟨_, rfl, iteT (k _ s1)⟩⟩⟩
    | @len a xs hq hl =>
      refine ⟨_, rfl, _, rfl, .inl ⟨a, _, rfl, hq, fun H1 s1 => ⟨_, rfl, iteF ?_⟩⟩⟩
      refine ⟨_, rfl, a, _, rfl, sxUp hq s1, rfl, _, rfl, ite2 (fun _ => k _ s1) (fun c => absurd (by simpa using fun e : (xs.length : Int) = 2 => hl (by omega)) c)⟩
    | @one a u v hq hn =>
      refine ⟨_, rfl, _, rfl, .inl ⟨a, _, rfl, hq, fun H1 s1 => ⟨_, rfl, iteF ?_⟩⟩⟩
      refine ⟨_, rfl, a, _, rfl, sxUp hq s1, rfl, _, rfl, iteF ?_⟩
      refine ⟨_, rfl, un2 (sxUp hq s1) ?_⟩
      rcases hn.up s1 with ⟨s, rfl, m⟩ | ⟨t, ht, e⟩
      · refine ⟨_, rfl, _, rfl, _, dd, kvs, rfl, rdUp hd s1, .inl ⟨s, rfl, ?_⟩⟩
        rw [key_some hk, decide_eq_false m]
        exact ⟨_, rfl, iteF (k _ s1)⟩
      · exact ⟨_, rfl, _, rfl, _, dd, kvs, rfl, rdUp hd s1, .inr ⟨t, ht, e, _, rfl, iteF (k _ s1)⟩⟩
    | @two a s v hq m hn =>
      refine ⟨_, rfl, _, rfl, .inl ⟨a, _, rfl, hq, fun H1 s1 => ⟨_, rfl, iteF ?_⟩⟩⟩
      refine ⟨_, rfl, a, _, rfl, sxUp hq s1, rfl, _, rfl, iteF ?_⟩
      refine ⟨_, rfl, un2 (sxUp hq s1) ?_⟩
      refine ⟨_, rfl, _, rfl, _, dd, kvs, rfl, rdUp hd s1, .inl ⟨s, rfl, ?_⟩⟩
      rw [key_some hk, decide_eq_true m]
      rcases hn.up s1 with ⟨z, rfl, m2⟩ | ⟨t, ht, e⟩
      · refine ⟨_, rfl, iteT ⟨_, rfl, _, rfl, _, dd, kvs, rfl, rdUp hd s1, .inl ⟨z, rfl, ?_⟩⟩⟩
        rw [key_some hk, decide_eq_false m2]
        exact ⟨_, rfl, iteF (k _ s1)⟩
      · exact ⟨_, rfl, iteT ⟨_, rfl, _, rfl, _, dd, kvs, rfl, rdUp hd s1, .inr ⟨t, ht, e, _, rfl, iteF (k _ s1)⟩⟩⟩
    | @same a s hq m =>
      refine ⟨_, rfl, _, rfl, .inl ⟨a, _, rfl, hq, fun H1 s1 => ⟨_, rfl, iteF ?_⟩⟩⟩
      refine ⟨_, rfl, a, _, rfl, sxUp hq s1, rfl, _, rfl, iteF ?_⟩
      refine ⟨_, rfl, un2 (sxUp hq s1) ?_⟩
      refine ⟨_, rfl, _, rfl, _, dd, kvs, rfl, rdUp hd s1, .inl ⟨s, rfl, ?_⟩⟩
      rw [key_some hk, decide_eq_true m]
      refine ⟨_, rfl, iteT ⟨_, rfl, _, rfl, _, dd, kvs, rfl, rdUp hd s1, .inl ⟨s, rfl, ?_⟩⟩⟩
      rw [key_some hk, decide_eq_true m]
      refine ⟨_, rfl, iteT ⟨_, rfl, _, rfl, rfl, ?_⟩⟩
      rw [show (!decide (V.str s = V.str s)) = false by rw [decide_eq_true rfl]; rfl]
      exact k _ s1
/-- a pair of unlike dishes -/
def GoodO (K : PySem.W.Frag) (H : Hp) (ks : List Str) (x : V) : Prop := ∃ (b : Addr) (p : Str × Str), x = .ref b ∧ SqX K H b [.str p.1, .str p.2] ∧ p.1 ∈ ks ∧ p.2 ∈ ks ∧ p.1 ≠ p.2
/-- orders of which the one at k is the first that is none -/
def BadO (K : PySem.W.Frag) (H : Hp) (ks : List Str) (o : V) (k : Nat) : Prop := (k = 0 ∧ ∃ t, TyX K H o (.type t) ∧ kitB t "list" = some false ∧ kitB t "tuple" = some false) ∨
  ∃ (a : Addr) (xs : List V), o = .ref a ∧ SqX K H a xs ∧ (∀ (i : Nat) (x : V), i < k → xs[i]? = some x → GoodO K H ks x) ∧ ∃ x, xs[k]? = some x ∧ OddO K H ks x
theorem BadO.up {H H' : Hp} {ks : List Str} {o : V} {k : Nat} (h : BadO K H ks o k) (s : Same H H') : BadO K H' ks o k := by
  rcases h with ⟨e, t, h1, h2⟩ | ⟨a, xs, e, hq, hg, x, hx, ho⟩
  · exact .inl ⟨e, t, tyXSame s h1, h2⟩
  · exact .inr ⟨a, xs, e, sxUp hq s, fun i y lt hy => by obtain ⟨b, p, e1, q, r⟩ := hg i y lt hy; exact ⟨b, p, e1, sxUp q s, r⟩, x, hx, ho.up s⟩
def RaO (K : PySem.W.Frag) (CN : Addr) (H : Hp) (k : Nat) (E : XK) : Prop := ∀ y dd H', Same H H' → H' dd = some (.xd [("index", y)]) → SD K 1 H' (.int (k : Nat)) y → E (.ref CN) (some dd) H'
def spBOI (K : PySem.W.Frag) (n : Nat) (C : Addr) : Sp := fun vs H Q _ => ∃ (a : Addr) (x : V) (G : Hp), vs = [.ref a, x] ∧ H a = some (exo a C none) ∧ G a = none ∧ Cpre K n G H x ∧
  ∀ y Hc dx, Same H Hc → Hc dx = none → dx ≠ a → (∀ H', (∀ b u, Hc b = some u → b ≠ a → H' b = some u) → SD K n H' x y) → Q .non (upd (upd Hc dx (exd dx [("index", y)])) a (exo a C (some dx)))
theorem ok_boi (T : Txt K mg A) (n : Nat) : FnOk P w K mg base CX0 (n + 1) A.a_BadOrder___init__ A.d_BadOrder___init__ P_BadOrder___init__ (spBOI K n A.a_BadOrder) := by
  have G_copied : FnOk P w K mg base CX0 n A.a_copied A.d_copied P_copied (spCopy K n) := ok_copied T n
  refine T.f_BadOrder___init__.ok sc_BadOrder___init__ (fun vs H Q E h => ?_) (fun cdv A' outer s H vs Q E hr h => ?_)
  · obtain ⟨a, x, G, rfl, _⟩ := h
    rfl
  · obtain ⟨a, x, G, rfl, ha, ga, ⟨sG, hx⟩, k⟩ := h
    refine ⟨_, (pss_one (ps_ost (pv 0) (pe_call G_copied (hr.mono (by omega)) (by rfl) T.g_copied T.f_copied.kp T.b_copied .nil pass0 (pa_cons (pv 1) pa_nil)))), ?_⟩
    rcases hx with ⟨d, hx, hd, hw⟩ | ⟨a2, rfl, ha2, hn⟩
    · refine ⟨_, rfl, x, rfl, .inl ⟨d, G, sG, hx, hd, hw, fun y G' Hc s1 mo sG' hy => ⟨_, rfl, a, A.a_BadOrder, rfl, T.xBo, T.nBo, .inl ⟨s1 _ _ ha, fun dx h1 h2 => k y Hc dx s1 h1 h2 fun H' hh => .inl ⟨d, ?_, ?_, hd, hw⟩⟩⟩⟩⟩
      · exact dpSame (fun b u e => hh b u (s1 _ _ (sG _ _ e)) fun z => by rw [z, ga] at e; cases e) hx
      · refine dpSame (fun b u e => hh b u (sG' _ _ e) fun z => ?_) hy
        subst z
        rcases mo.new b (by rw [e]; exact fun z => nomatch z) with z | z
        · exact z ga
        · rw [ha] at z; cases z
    · refine ⟨_, rfl, _, rfl, .inr ⟨a2, rfl, ha2, hn, fun b Hc s1 hb0 hb => ⟨_, rfl, a, A.a_BadOrder, rfl, T.xBo, T.nBo, .inl ⟨s1 _ _ ha, fun dx h1 h2 => k _ Hc dx s1 h1 h2 fun H' hh => .inr ⟨a2, b, rfl, rfl, ?_, ?_⟩⟩⟩⟩⟩
      · exact hh _ _ (s1 _ _ ha2) fun z => by rw [z, ha] at ha2; exact exo_dK (Option.some.inj ha2)
      · exact hh _ _ hb fun z => by rw [z, ha] at hb0; cases hb0
def spChkOrdX (K : PySem.W.Frag) (CN : Addr) : Sp := fun vs H _ E => ∃ (o : V) (dd : Addr) (kvs : List (Key × V)) (ks : List Str) (k : Nat), vs = [o, .ref dd] ∧ Rd H dd (.dK kvs) ∧ kvs.map (·.1) = ks.map Sum.inr ∧ BadO K H ks o k ∧ RaO K CN H k E
theorem ok_chkordX (T : Txt K mg A) : FnOk P w K mg base (L2.CX P w) 4 A.a_check_orders A.d_check_orders P_check_orders (spChkOrdX K A.a_BadOrder) := by
  have G_is_list : FnOk P w K mg base CX0 1 A.a_is_list A.d_is_list P_is_list (spIsListX K) := ok_islistX T
  have G_is_order : FnOk P w K mg base CX0 2 A.a_is_order A.d_is_order P_is_order (fun vs H Q E => spIsOrder K vs H Q E ∨ spIsOrderF K vs H Q E) := fnOr (ok_isorder T) (ok_isorderF T)
  have G_BadOrder___init__ : FnOk P w K mg base CX0 2 A.a_BadOrder___init__ A.d_BadOrder___init__ P_BadOrder___init__ (spBOI K 1 A.a_BadOrder) := ok_boi T 1
  refine T.f_check_orders.okX sc_check_orders (fun vs H Q E h => ?_) (fun cdv A' outer s H vs Q E hr h => ?_)
  · obtain ⟨o, dd, kvs, ks, k, rfl, _⟩ := h
    rfl
  · obtain ⟨o, dd, kvs, ks, k, rfl, hd, hk, hb, ra⟩ := h
    refine ⟨_, (pss_cons (ps_if (pt_not (pt_val (pe_call G_is_list (hr.mono (by omega)) (by rfl) T.g_is_list T.f_is_list.kp T.b_is_list .nil pass0 (pa_cons (pv 0) pa_nil))))
 (pss_one (ps_raise rfl (takes_of rfl rfl rfl rfl) (pmk_oex T.xBo T.iBo T.tBo G_BadOrder___init__ (hr.mono (by omega)) T.b_BadOrder___init__ .nil pass0 (by rfl) T.g_BadOrder (pa_cons pe_int pa_nil))))
 pss_nil)
 (pss_one (ps_for (passes_of rfl) rfl (EnT.pi_or (pi_enum (by rfl) T.enumerate (pa_cons (pv 0) pa_nil)) (EnT.pi_enumT (by rfl) T.enumerate (pa_cons (pv 0) pa_nil))) (pg_tup (by rfl) (pgs_cons (pg_name (i := 2) sc_check_orders.nd rfl (Or.inl rfl)) (pgs_cons (pg_name (i := 3) sc_check_orders.nd rfl (Or.inl rfl)) pgs_nil)))
 (pss_one (ps_if (pt_not (pt_val (pe_call G_is_order (hr.mono (by omega)) (by rfl) T.g_is_order T.f_is_order.kp T.b_is_order .nil pass0 (pa_cons (pv 3) (pa_cons (pv 1) pa_nil)))))
 (pss_one (ps_raise rfl (takes_of rfl rfl rfl rfl) (pmk_oex T.xBo T.iBo T.tBo G_BadOrder___init__ (hr.mono (by omega)) T.b_BadOrder___init__ .nil pass0 (by rfl) T.g_BadOrder (pa_cons (pv 2) pa_nil))))
 pss_nil))))), ?_⟩
    rcases hb with ⟨rfl, t, ht, h1, h2⟩ | ⟨a, xs, rfl, hq, hg, y, hy, ho⟩
    · refine ⟨_, rfl, _, rfl, .inr ⟨_, ht, h1, h2, fun H1 s1 => ⟨_, rfl, iteT ?_⟩⟩⟩
      exact ⟨by show 1 ≤ 1000; decide, fun a na => ⟨a, _, H1, rfl, upd_same, na, exc_pre na (Same.refl _) (.inl ⟨.int 0, .int _, by simp [PyData.depth], rfl⟩), fun y Hc dx s2 h1 h2 h3 => ⟨rfl, dx, _, exc_fin na s2 h1 h2 h3 (fun y dx H' s e sd => ra y dx H' (s1.trans s) e sd) _ rfl⟩⟩⟩
    · refine ⟨_, rfl, _, rfl, .inl ⟨a, _, rfl, hq, fun H1 s1 => ⟨_, rfl, iteF ?_⟩⟩⟩
      have kl : k < xs.length := (List.getElem?_eq_some_iff.mp hy).1
      refine enum_or (sxUp hq s1) (Same.refl _) rfl fun J G wk hG => for_it wk (fun i σ' H' => i ≤ k ∧ ∃ x y, σ' = [some (.ref a), some (.ref dd), x, y] ∧ Same H1 H') ⟨Nat.zero_le _, none, none, rfl, Same.refl _⟩ (fun i σ' H' _ ⟨_, _, _, _, z⟩ => hG H' z) ?_ (fun σ' H' ⟨le, _⟩ => absurd le (by omega))
      rintro i x σ' H' H'' hi ⟨ik, x2, x3, rfl, s2⟩ ⟨t, u, w', rfl, nt, rfl, e1, hx⟩
      cases e1
      have s3 := s2.trans (Same.new nt (o := .tup [.int (i : Nat), w']))
      have S3 := s1.trans s3
      refine ⟨t, _, rfl, SqT.of upd_same, rfl, _, _, rfl, _, _, rfl, rfl, ?_⟩
      generalize upd H' t (.tup [.int (i : Nat), w']) = H3 at s3 S3 ⊢
      by_cases c : i < k
      · obtain ⟨b, p, rfl, hbq, m1, m2, ne⟩ := hg i w' c hx
        exact ⟨_, rfl, _, rfl, .inl ⟨b, dd, p, kvs, rfl, sxUp hbq S3, rdUp hd S3, by rw [key_some hk, decide_eq_true m1], by rw [key_some hk, decide_eq_true m2], ne, fun H4 s4 => ⟨_, rfl, iteF ⟨c, _, _, rfl, s3.trans s4⟩⟩⟩⟩
      · have e : i = k := by omega
        subst e
        have hx : xs[i]? = some w' := hx
        rw [hy] at hx
        cases hx
        refine ⟨_, rfl, _, rfl, .inr ⟨_, dd, kvs, ks, rfl, ho.up S3, rdUp hd S3, hk, fun H4 s4 => ⟨_, rfl, iteT ?_⟩⟩⟩
        exact ⟨_, rfl, by show 1 ≤ 1000; decide, fun a na => ⟨a, _, H4, rfl, upd_same, na, exc_pre na (Same.refl _) (.inl ⟨.int (i : Nat), .int _, by simp [PyData.depth], rfl⟩), fun y Hc dx s5 h1 h2 h3 => ⟨rfl, dx, _, exc_fin na s5 h1 h2 h3 (fun y dx H' s e sd => ra y dx H' ((S3.trans s4).trans s) e sd) _ rfl⟩⟩⟩
/-- a function of a meal, a hanging and orders that are refused -/
def spOrdX (K : PySem.W.Frag) (CM CH CN : Addr) (n : Nat) : Sp := fun vs H _ E => ∃ (p b : Addr) (o : V) (more : List V) (ys : List Str) (lo hi : Str → Int) (ds es : List PyData) (hk : Str → Str) (k : Nat), vs = .ref p :: .ref b :: o :: more ∧ more.length = n ∧ MlAt K CM H p ys lo hi ds es ∧ HgF CH H b ys hk ∧ ys.length < 64 ∧ (∀ n ∈ ys, PyData.strOk n = true) ∧ BadO K H ys o k ∧ RaO K CN H k E
theorem len0' {vs : List V} (h : vs.length = 0) : vs = [] := List.eq_nil_of_length_eq_zero h
theorem len1' {vs : List V} (h : vs.length = 1) : ∃ v, vs = [v] := List.length_eq_one_iff.mp h
theorem ok_leastX (T : Txt K mg A) : FnOk P w K mg base (L2.CX P w) 8 A.a_least_sums A.d_least_sums P_least_sums (spOrdX K A.a_Meal A.a_Hanging A.a_BadOrder 0) := by
  have G_check_same : FnOk P w K mg base CX0 6 A.a_check_same A.d_check_same P_check_same (spSameHD K A.a_Meal A.a_Hanging) := ok_chksameH T
  have G_check_orders : FnOk P w K mg base (L2.CX P w) 4 A.a_check_orders A.d_check_orders P_check_orders (spChkOrdX K A.a_BadOrder) := ok_chkordX T
  have G_Meal_dishes : FnOk P w K mg base CX0 1 A.a_Meal_dishes A.d_Meal_dishes P_Meal_dishes (spMDishes K A.a_Meal) := ok_mdishes T
  refine T.f_least_sums.okX sc_least_sums (fun vs H Q E h => ?_) (fun cdv A' outer s H vs Q E hr h => ?_)
  · obtain ⟨p, b, o, more, ys, lo, hi, ds, es, hk, k, rfl, hm, _⟩ := h
    obtain rfl := len0' hm
    rfl
  · obtain ⟨p, b, o, more, ys, lo, hi, ds, es, hk, k, rfl, hm, M, B, hl, ok, ho, ra⟩ := h
    obtain rfl := len0' hm
    refine ⟨_, (pss_cons (ps_expr (pe_call G_check_same (hr.mono (by omega)) (by rfl) T.g_check_same T.f_check_same.kp T.b_check_same .nil pass0 (pa_cons (pv 0) (pa_cons (pv 1) pa_nil))))
 (pss_cons (ps_expr (pe_call G_check_orders (hr.mono (by omega)) (by rfl) T.g_check_orders T.f_check_orders.kp T.b_check_orders .nil (passes_call (takes_of rfl rfl rfl rfl) (fun _ _ _ _ h => h)) (pa_cons (pv 2) (pa_cons (pe_meth0 (pv 0) T.cl_M T.m_dishes G_Meal_dishes (hr.mono (by omega)) T.b_Meal_dishes .nil pass0) pa_nil))))
 pss_never)), ?_⟩
    refine ⟨_, rfl, _, rfl, p, b, ys, ys, lo, hi, ds, es, hk, rfl, M, B, hl, ok, ok, rfl, fun H1 s1 => ?_⟩
    obtain ⟨dx, qb, qw, qp, kvs, us, uq, hp, _⟩ := id (M.up s1).ex
    refine ⟨_, rfl, _, rfl, p, dx, _, rfl, hp, rfl, p, ys, lo, hi, ds, es, rfl, M.up s1, fun l H2 kv nl s2 hl2 hP => ?_⟩
    exact ⟨o, l, kv, ys, k, rfl, .inl hl2, hP.keys, ho.up (s1.trans s2), fun y dd H' s e sd => ra y dd H' ((s1.trans s2).trans s) e sd⟩
theorem ok_earlyX (T : Txt K mg A) : FnOk P w K mg base (L2.CX P w) 9 A.a_earliest A.d_earliest P_earliest (spOrdX K A.a_Meal A.a_Hanging A.a_BadOrder 0) := by
  have G_least_sums : FnOk P w K mg base (L2.CX P w) 8 A.a_least_sums A.d_least_sums P_least_sums (spOrdX K A.a_Meal A.a_Hanging A.a_BadOrder 0) := ok_leastX T
  refine T.f_earliest.ok (CX := L2.CX P w) sc_earliest (fun vs H Q E h => ?_) (fun cdv A' outer s H vs Q E hr h => ?_)
  · obtain ⟨p, b, o, more, ys, lo, hi, ds, es, hk, k, rfl, hm, _⟩ := h
    obtain rfl := len0' hm
    rfl
  · obtain ⟨p, b, o, more, ys, lo, hi, ds, es, hk, k, rfl, hm, h⟩ := h
    obtain rfl := len0' hm
    refine ⟨_, (pss_cons (ps_asg (pe_call G_least_sums (hr.mono (by omega)) (by rfl) T.g_least_sums T.f_least_sums.kp T.b_least_sums .nil (passes_call (takes_of rfl rfl rfl rfl) (fun _ _ _ _ h => h)) (pa_cons (pv 0) (pa_cons (pv 1) (pa_cons (pv 2) pa_nil)))) (pg_tup (by rfl) (pgs_cons (pg_name (i := 3) sc_earliest.nd rfl (Or.inl rfl)) (pgs_cons (pg_name (i := 4) sc_earliest.nd rfl (Or.inl rfl)) pgs_nil))))
 pss_never), ?_⟩
    exact ⟨_, rfl, _, rfl, _, rfl, p, b, o, [], ys, lo, hi, ds, es, hk, k, rfl, rfl, h⟩
theorem ok_lateX (T : Txt K mg A) : FnOk P w K mg base (L2.CX P w) 9 A.a_latest A.d_latest P_latest (spOrdX K A.a_Meal A.a_Hanging A.a_BadOrder 0) := by
  have G_least_sums : FnOk P w K mg base (L2.CX P w) 8 A.a_least_sums A.d_least_sums P_least_sums (spOrdX K A.a_Meal A.a_Hanging A.a_BadOrder 0) := ok_leastX T
  refine T.f_latest.ok (CX := L2.CX P w) sc_latest (fun vs H Q E h => ?_) (fun cdv A' outer s H vs Q E hr h => ?_)
  · obtain ⟨p, b, o, more, ys, lo, hi, ds, es, hk, k, rfl, hm, _⟩ := h
    obtain rfl := len0' hm
    rfl
  · obtain ⟨p, b, o, more, ys, lo, hi, ds, es, hk, k, rfl, hm, h⟩ := h
    obtain rfl := len0' hm
    refine ⟨_, (pss_cons (ps_asg (pe_call G_least_sums (hr.mono (by omega)) (by rfl) T.g_least_sums T.f_least_sums.kp T.b_least_sums .nil (passes_call (takes_of rfl rfl rfl rfl) (fun _ _ _ _ h => h)) (pa_cons (pv 0) (pa_cons (pv 1) (pa_cons (pv 2) pa_nil)))) (pg_tup (by rfl) (pgs_cons (pg_name (i := 3) sc_latest.nd rfl (Or.inl rfl)) (pgs_cons (pg_name (i := 4) sc_latest.nd rfl (Or.inl rfl)) pgs_nil))))
 pss_never), ?_⟩
    exact ⟨_, rfl, _, rfl, _, rfl, p, b, o, [], ys, lo, hi, ds, es, hk, k, rfl, rfl, h⟩
theorem ok_ringX (T : Txt K mg A) : FnOk P w K mg base (L2.CX P w) 9 A.a_ring A.d_ring P_ring (spOrdX K A.a_Meal A.a_Hanging A.a_BadOrder 0) := by
  have G_least_sums : FnOk P w K mg base (L2.CX P w) 8 A.a_least_sums A.d_least_sums P_least_sums (spOrdX K A.a_Meal A.a_Hanging A.a_BadOrder 0) := ok_leastX T
  refine T.f_ring.ok (CX := L2.CX P w) sc_ring (fun vs H Q E h => ?_) (fun cdv A' outer s H vs Q E hr h => ?_)
  · obtain ⟨p, b, o, more, ys, lo, hi, ds, es, hk, k, rfl, hm, _⟩ := h
    obtain rfl := len0' hm
    rfl
  · obtain ⟨p, b, o, more, ys, lo, hi, ds, es, hk, k, rfl, hm, h⟩ := h
    obtain rfl := len0' hm
    refine ⟨_, (pss_cons (ps_asg (pe_call G_least_sums (hr.mono (by omega)) (by rfl) T.g_least_sums T.f_least_sums.kp T.b_least_sums .nil (passes_call (takes_of rfl rfl rfl rfl) (fun _ _ _ _ h => h)) (pa_cons (pv 0) (pa_cons (pv 1) (pa_cons (pv 2) pa_nil)))) (pg_tup (by rfl) (pgs_cons (pg_name (i := 3) sc_ring.nd rfl (Or.inl rfl)) (pgs_cons (pg_name (i := 4) sc_ring.nd rfl (Or.inl rfl)) pgs_nil))))
 pss_never), ?_⟩
    exact ⟨_, rfl, _, rfl, _, rfl, p, b, o, [], ys, lo, hi, ds, es, hk, k, rfl, rfl, h⟩
theorem ok_isringX (T : Txt K mg A) : FnOk P w K mg base (L2.CX P w) 8 A.a_is_ring A.d_is_ring P_is_ring (spOrdX K A.a_Meal A.a_Hanging A.a_BadOrder 1) := by
  have G_check_same : FnOk P w K mg base CX0 6 A.a_check_same A.d_check_same P_check_same (spSameHD K A.a_Meal A.a_Hanging) := ok_chksameH T
  have G_check_orders : FnOk P w K mg base (L2.CX P w) 4 A.a_check_orders A.d_check_orders P_check_orders (spChkOrdX K A.a_BadOrder) := ok_chkordX T
  have G_Meal_dishes : FnOk P w K mg base CX0 1 A.a_Meal_dishes A.d_Meal_dishes P_Meal_dishes (spMDishes K A.a_Meal) := ok_mdishes T
  refine T.f_is_ring.okX sc_is_ring (fun vs H Q E h => ?_) (fun cdv A' outer s H vs Q E hr h => ?_)
  · obtain ⟨p, b, o, more, ys, lo, hi, ds, es, hk, k, rfl, hm, _⟩ := h
    obtain ⟨v, rfl⟩ := len1' hm
    rfl
  · obtain ⟨p, b, o, more, ys, lo, hi, ds, es, hk, k, rfl, hm, M, B, hl, ok, ho, ra⟩ := h
    obtain ⟨v, rfl⟩ := len1' hm
    refine ⟨_, (pss_cons (ps_expr (pe_call G_check_same (hr.mono (by omega)) (by rfl) T.g_check_same T.f_check_same.kp T.b_check_same .nil pass0 (pa_cons (pv 0) (pa_cons (pv 1) pa_nil))))
 (pss_cons (ps_expr (pe_call G_check_orders (hr.mono (by omega)) (by rfl) T.g_check_orders T.f_check_orders.kp T.b_check_orders .nil (passes_call (takes_of rfl rfl rfl rfl) (fun _ _ _ _ h => h)) (pa_cons (pv 2) (pa_cons (pe_meth0 (pv 0) T.cl_M T.m_dishes G_Meal_dishes (hr.mono (by omega)) T.b_Meal_dishes .nil pass0) pa_nil))))
 pss_never)), ?_⟩
    refine ⟨_, rfl, _, rfl, p, b, ys, ys, lo, hi, ds, es, hk, rfl, M, B, hl, ok, ok, rfl, fun H1 s1 => ?_⟩
    obtain ⟨dx, qb, qw, qp, kvs, us, uq, hp, _⟩ := id (M.up s1).ex
    refine ⟨_, rfl, _, rfl, p, dx, _, rfl, hp, rfl, p, ys, lo, hi, ds, es, rfl, M.up s1, fun l H2 kv nl s2 hl2 hP => ?_⟩
    exact ⟨o, l, kv, ys, k, rfl, .inl hl2, hP.keys, ho.up (s1.trans s2), fun y dd H' s e sd => ra y dd H' ((s1.trans s2).trans s) e sd⟩
theorem ok_rowofOX (T : Txt K mg A) : FnOk P w K mg base (L2.CX P w) 7 A.a_row_of A.d_row_of P_row_of (spOrdX K A.a_Meal A.a_Hanging A.a_BadOrder 1) := by
  have G_check_same : FnOk P w K mg base CX0 6 A.a_check_same A.d_check_same P_check_same (spSameHD K A.a_Meal A.a_Hanging) := ok_chksameH T
  have G_check_orders : FnOk P w K mg base (L2.CX P w) 4 A.a_check_orders A.d_check_orders P_check_orders (spChkOrdX K A.a_BadOrder) := ok_chkordX T
  have G_Meal_dishes : FnOk P w K mg base CX0 1 A.a_Meal_dishes A.d_Meal_dishes P_Meal_dishes (spMDishes K A.a_Meal) := ok_mdishes T
  refine T.f_row_of.okX sc_row_of (fun vs H Q E h => ?_) (fun cdv A' outer s H vs Q E hr h => ?_)
  · obtain ⟨p, b, o, more, ys, lo, hi, ds, es, hk, k, rfl, hm, _⟩ := h
    obtain ⟨v, rfl⟩ := len1' hm
    rfl
  · obtain ⟨p, b, o, more, ys, lo, hi, ds, es, hk, k, rfl, hm, M, B, hl, ok, ho, ra⟩ := h
    obtain ⟨v, rfl⟩ := len1' hm
    refine ⟨_, (pss_cons (ps_expr (pe_call G_check_same (hr.mono (by omega)) (by rfl) T.g_check_same T.f_check_same.kp T.b_check_same .nil pass0 (pa_cons (pv 0) (pa_cons (pv 1) pa_nil))))
 (pss_cons (ps_expr (pe_call G_check_orders (hr.mono (by omega)) (by rfl) T.g_check_orders T.f_check_orders.kp T.b_check_orders .nil (passes_call (takes_of rfl rfl rfl rfl) (fun _ _ _ _ h => h)) (pa_cons (pv 2) (pa_cons (pe_meth0 (pv 0) T.cl_M T.m_dishes G_Meal_dishes (hr.mono (by omega)) T.b_Meal_dishes .nil pass0) pa_nil))))
 pss_never)), ?_⟩
    refine ⟨_, rfl, _, rfl, p, b, ys, ys, lo, hi, ds, es, hk, rfl, M, B, hl, ok, ok, rfl, fun H1 s1 => ?_⟩
    obtain ⟨dx, qb, qw, qp, kvs, us, uq, hp, _⟩ := id (M.up s1).ex
    refine ⟨_, rfl, _, rfl, p, dx, _, rfl, hp, rfl, p, ys, lo, hi, ds, es, rfl, M.up s1, fun l H2 kv nl s2 hl2 hP => ?_⟩
    exact ⟨o, l, kv, ys, k, rfl, .inl hl2, hP.keys, ho.up (s1.trans s2), fun y dd H' s e sd => ra y dd H' ((s1.trans s2).trans s) e sd⟩
end
end K5
set_option Elab.async false
set_option linter.all false
set_option maxRecDepth 100000
set_option maxHeartbeats 4000000
namespace K5
open PySem L2
local macro_rules | `(tactic| walk_at "rd1") => `(tactic| first
  | refine ⟨_, _, rfl, rfl, ?_⟩
  | refine ⟨_, _, _, _, rfl, rfl, SqL.of (by assumption), rfl, ?_⟩
  | refine ⟨_, _, _, _, rfl, rfl, (by assumption), rfl, ?_⟩
  | refine .inl ⟨_, rfl, ?_⟩
  | refine ⟨_, rfl, ?_⟩
  | refine ⟨(by unfold CMul; omega), ?_⟩
  | refine ⟨(by unfold CPow; omega), ?_⟩
  | refine ⟨(by (try dsimp only); omega), ?_⟩
  | refine ⟨(by unfold CDiv; omega), ?_⟩
  | fail "rd1")
local macro_rules | `(tactic| walk_at "rd") => `(tactic| repeat' (walk_at "rd1"))
open Own
section
variable {P : Program} {w : World} {K : PySem.W.Frag} {mg : Str → Option Value} {base : Heap} {A : Ad}
theorem BkAt.rd {C : Addr} {H : Hp} {p : Addr} {ys : List Str} {hk : Str → Str} {wt : Str → Int} (B : BkAt C H p ys hk wt) : BkR C H p ys hk wt := by
  obtain ⟨dx, qa, qw, h1, h2, h3⟩ := B.ex
  exact ⟨dx, qa, qw, h1, .inl h2, h3⟩
end
end K5
set_option Elab.async false
set_option linter.all false
set_option maxRecDepth 100000
set_option maxHeartbeats 4000000
namespace K5
open PySem L2
local macro_rules | `(tactic| walk_at "rd1") => `(tactic| first
  | refine ⟨_, _, rfl, rfl, ?_⟩
  | refine ⟨_, _, _, _, rfl, rfl, SqL.of (by assumption), rfl, ?_⟩
  | refine ⟨_, _, _, _, rfl, rfl, (by assumption), rfl, ?_⟩
  | refine .inl ⟨_, rfl, ?_⟩
  | refine ⟨_, rfl, ?_⟩
  | refine ⟨(by unfold CMul; omega), ?_⟩
  | refine ⟨(by unfold CPow; omega), ?_⟩
  | refine ⟨(by (try dsimp only); omega), ?_⟩
  | refine ⟨(by unfold CDiv; omega), ?_⟩
  | fail "rd1")
local macro_rules | `(tactic| walk_at "rd") => `(tactic| repeat' (walk_at "rd1"))
open Own
section
variable {P : Program} {w : World} {K : PySem.W.Frag} {mg : Str → Option Value} {base : Heap} {A : Ad}
def qL : Str := (Str.ofString "law" ++ ".<locals>.") ++ "<lambda>"
def T1 (P1 : Addr) : List (Addr × Str) := [(P1, qL)]
theorem inT1 {P1 : Addr} {p : Addr × Str} (h : p ∈ T1 P1) : p = (P1, qL) := by
  unfold T1 at h
  simpa using h
theorem uqL1 {P1 : Addr} : ∀ p ∈ T1 P1, p.1 = P1 → p.2 = qL := fun p hp e => by rw [inT1 hp]
theorem inL1 {P1 : Addr} : (P1, qL) ∈ T1 P1 := by unfold T1; simp
abbrev EchO (CB CN : Addr) (Q : VK) : XK := fun cls d H' => (cls = .ref CB ∧ ∃ dd y, d = some dd ∧ H' dd = some (.xd [("index", y)]) ∧ ∀ t, H' t = none → Q (.ref t) (upd H' t (.tup [.str "order", y]))) ∨ (cls = .ref CN ∧ ∀ t, H' t = none → Q (.ref t) (upd H' t (.tup [.str "row", .non])))
def TTo (CB CN : Addr) : (XK → Hp → VK → Prop) → Hp → VK → Prop := fun tl H Q => tl (EchO CB CN Q) H (fun v H1 => ∃ u, (some (some V.non) : Option (Option V)) = some (some u) ∧ Q u H1)
theorem tried_gives {X : Cx} {q : Str} {cdg : Value} (T : Txt X.K X.mg A) :
    LamX.GivesTo X N__law_tried "_law_tried" (defScope s__law_tried) A.a__law_tried cdg (defBody s__law_tried) "_law_ask" q (TTo A.a_BadOrder A.a_NoRow) := by
  intro f c' s H Q tl act hc h
  refine ⟨_, pss_cons (ps_set (i := 1) sc__law_tried.nd rfl (Or.inl rfl) pe_non) (pss_cons (Own.ps_clauses
      (tb := fun (W : WX) D σ H => ∃ Ech : XK, (∀ (cls : Value) (d : Option Addr) (σ' : St) (H' : Hp), Ech cls d H' → σ'.length = 3 → W cls d σ' H') ∧ σ[0]? = some (some (.ref f)) ∧ H c' = some (LamX.CodeO c' q) ∧ tl Ech H fun v H1 => D.nx σ H1)
      rfl rfl sc__law_tried.nd takes0 (fun W pn xe tk _ => ?_)
      (.named (i := 2) rfl rfl ⟨rfl, by decide, .inl T.g_BadOrder⟩ (fun a oe cls d pn hz hf => pss_one (ps_set (i := 1) sc__law_tried.nd rfl (Or.inl rfl) (pe_tup (pa_cons pe_str (pa_cons (pe_xf T.xfBo T.nBo hz hf (pv 2)) pa_nil)))))
        (.plain ⟨rfl, by decide, .inl T.g_NoRow⟩ (fun a oe cls d pn hz hf => pss_one (ps_set (i := 1) sc__law_tried.nd rfl (Or.inl rfl) (pe_tup (pa_cons pe_str (pa_cons pe_non pa_nil))))) .nil))) (pss_one (ps_ret (pv 1)))), ?_⟩
  · refine ⟨fun pins s' σ H' D I h' => ?_⟩
    obtain ⟨Ech, hW, h1, h2, h3⟩ := h'
    have hp := fun p1 p2 => act (fun c d σ H => σ.length = 3 → W c d σ H) pn xe Ech p1 p2 (takes_len tk) hW
    exact PSs.run (pss_one (ps_expr (hp _ _))) pins s' σ H' D I ⟨h1, h2, h3⟩
  · refine ⟨EchO A.a_BadOrder A.a_NoRow Q, ?_, rfl, hc, h⟩
    rintro cls d σ' H' (⟨rfl, dd, y, rfl, hdd, k⟩ | ⟨rfl, k⟩) hl
    · obtain ⟨x0, x1, x2, rfl⟩ := three hl
      refine ⟨true, T.eBo, fun _ a ha => ?_, fun z => nomatch z⟩
      exact ⟨_, rfl, rfl, rfl, dd, _, y, rfl, hdd, rfl, by show 2 ≤ sizeLine; decide, fun t ht => ⟨_, rfl, k t ht⟩⟩
    · obtain ⟨x0, x1, x2, rfl⟩ := three hl
      refine ⟨false, T.eNB, (fun z => nomatch z), fun _ => ⟨true, T.eNr, fun _ a ha => ?_, fun z => nomatch z⟩⟩
      exact ⟨by show 2 ≤ sizeLine; decide, fun t ht => ⟨_, rfl, k t ht⟩⟩
/-- some of the things -/
def spSome (K : PySem.W.Frag) : Sp := fun vs H Q _ => ∃ (st c t : Addr) (xs : List V) (b : Int), vs = [.ref st, .ref t] ∧ Sta H st c b ∧ b + 64 ≤ 1000000 ∧ SqL K (er H st) t xs ∧ xs.length ≤ 64 ∧
  ∀ (p : Addr) (ys : List V) (H' : Hp), Gs st c H H' (b + 64) → er H' st p = some (.lst ys) → ys.length ≤ xs.length → er H st p = none → Q (.ref p) H'
theorem ok_some (T : Txt K mg A) : FnOk P w K mg base CX0 2 A.a__law_some A.d__law_some P__law_some (spSome K) := by
  have G__law_take : FnOk P w K mg base CX0 1 A.a__law_take A.d__law_take P__law_take spTake := ok_take T
  refine T.f__law_some.ok sc__law_some (fun vs H Q E h => ?_) (fun cdv A' outer s H vs Q E hr h => ?_)
  · obtain ⟨st, c, t, xs, b, rfl, _⟩ := h
    rfl
  · obtain ⟨st, c, t, xs, b, rfl, hS, hb, ht, xl, k⟩ := h
    refine ⟨_, (pss_one (ps_ret (pe_lc (own := [("_law_thing", 2)]) (g := gName 2) (by rfl) sc__law_some.nd (pi_list (pv 1)) (blkOk_by (N := N__law_some) (sc := defScope s__law_some) (by decide +kernel)) (fun _ _ _ _ _ => pg_name (i := 2) sc__law_some.nd rfl (Or.inl rfl)) (fun _ _ _ _ _ => pts_one (pt_cmpR op_eq (pe_call G__law_take (hr.mono (by omega)) (by rfl) T.g__law_take T.f__law_take.kp T.b__law_take .nil pass0 (pa_cons (pv 0) (pa_cons pe_int pa_nil))) pe_int (nomark _))) (fun _ _ _ _ _ => (pv 2))))), ?_⟩
    refine ⟨_, rfl, t, rfl, ⟨_, sqEr ht⟩, fun D nD => ?_⟩
    have mD := hS.ne nD
    have eD := er_none (st := st) nD
    refine lc_it (walk_list (K := K) (a := t) (xs := xs)) (fun m G => ∃ ys, Gs st c H G (b + (m : Int)) ∧ er G st D = some (.lst ys) ∧ ys.length ≤ m)
      ⟨[], by simpa using (Gs.refl hS).new nD, er_of mD upd_same, Nat.zero_le _⟩ (fun m G _ ⟨_, g, _⟩ => sqEr (sqUp ht g.same)) ?_ (fun G z => ?_)
    · rintro m x G G' hm ⟨ys, g, hD, yl⟩ ⟨rfl, hx⟩
      refine ⟨rfl, _, rfl, st, c, 2, _, rfl, g.sta, by omega, by omega, by omega, fun r o hr0 hr1 S1 => ?_⟩
      have g2 := g.trans (Gs.of_upd S1)
      have hD2 := (Gs.of_upd S1).same _ _ hD
      generalize upd G' st o = G2 at g2 hD2 ⊢
      refine ⟨rfl, _, rfl, ite2 (fun c1 => ?_) (fun c1 => ?_)⟩
      · refine ⟨_, rfl, ys, (er_same _ _) _ _ hD2, Nat.lt_of_le_of_lt (show ys.length ≤ 64 by omega) (by decide), ys ++ [x], (g2.set hS.hc eD mD).le (by omega) (by omega), by rw [er_updp mD, upd_same], by rw [List.length_append, List.length_singleton]; omega⟩
      · exact ⟨ys, g2.le (by omega) (by omega), hD2, by omega⟩
    obtain ⟨ys, g, hD, yl⟩ := z
    exact k D ys G (g.le (by omega) (by omega)) hD yl eD
/-- is_ring of what is no list -/
def spRoundN (K : PySem.W.Frag) : Sp := fun vs H Q _ => ∃ (dh p : Addr) (o : V), vs = [.non, .ref dh, .ref p, o] ∧ ∀ H', Same H H' → Q (.bl false) H'
theorem ok_roundN (T : Txt K mg A) : FnOk P w K mg base CX0 7 A.a_goes_round A.d_goes_round P_goes_round (spRoundN K) := by
  have G_is_list : FnOk P w K mg base CX0 1 A.a_is_list A.d_is_list P_is_list (spIsListX K) := ok_islistX T
  refine T.f_goes_round.ok sc_goes_round (fun vs H Q E h => ?_) (fun cdv A' outer s H vs Q E hr h => ?_)
  · obtain ⟨dh, p, o, rfl, _⟩ := h
    rfl
  · obtain ⟨dh, p, o, rfl, k⟩ := h
    refine ⟨_, (pss_cons (ps_if (pt_not (pt_val (pe_call G_is_list (hr.mono (by omega)) (by rfl) T.g_is_list T.f_is_list.kp T.b_is_list .nil pass0 (pa_cons (pv 0) pa_nil))))
 (pss_one (ps_ret pe_bl))
 pss_nil)
 pss_never), ?_⟩
    exact ⟨_, rfl, _, rfl, .inr ⟨"NoneType", .base .non, by decide +kernel, by decide +kernel, fun H1 s1 => ⟨_, rfl, iteT (k _ s1)⟩⟩⟩
def spIsRingN (K : PySem.W.Frag) (CM CH : Addr) : Sp := fun vs H Q _ => ∃ (p b : Addr) (o : V) (ys : List Str) (hk : Str → Str) (W : Str → List Str) (lo hi : Str → Int) (ws : List (Mo × Mo × Int)) (es : List PyData) (ps : List (Str × Str)), vs = [.ref p, .ref b, o, .non] ∧ MH K CM CH H p b o ys hk W lo hi ws es ps ∧ ∀ H', Same H H' → Q (.bl false) H'
theorem ok_isringN (T : Txt K mg A) : FnOk P w K mg base CX0 8 A.a_is_ring A.d_is_ring P_is_ring (spIsRingN K A.a_Meal A.a_Hanging) := by
  have G_check_same : FnOk P w K mg base CX0 6 A.a_check_same A.d_check_same P_check_same (spSameHD K A.a_Meal A.a_Hanging) := ok_chksameH T
  have G_check_orders : FnOk P w K mg base CX0 3 A.a_check_orders A.d_check_orders P_check_orders (spChkOrd K) := ok_chkord T
  have G_goes_round : FnOk P w K mg base CX0 7 A.a_goes_round A.d_goes_round P_goes_round (spRoundN K) := ok_roundN T
  have G_Meal_dishes : FnOk P w K mg base CX0 1 A.a_Meal_dishes A.d_Meal_dishes P_Meal_dishes (spMDishes K A.a_Meal) := ok_mdishes T
  have G_Hanging_rows : FnOk P w K mg base CX0 1 A.a_Hanging_rows A.d_Hanging_rows P_Hanging_rows (spHRows A.a_Hanging) := ok_hrows T
  refine T.f_is_ring.ok sc_is_ring (fun vs H Q E h => ?_) (fun cdv A' outer s H vs Q E hr h => ?_)
  · obtain ⟨p, b, o, ys, hk, W, lo, hi, ws, es, ps, rfl, _⟩ := h
    rfl
  · obtain ⟨p, b, o, ys, hk, W, lo, hi, ws, es, ps, rfl, B, k⟩ := h
    refine ⟨_, (pss_cons (ps_expr (pe_call G_check_same (hr.mono (by omega)) (by rfl) T.g_check_same T.f_check_same.kp T.b_check_same .nil pass0 (pa_cons (pv 0) (pa_cons (pv 1) pa_nil))))
 (pss_cons (ps_expr (pe_call G_check_orders (hr.mono (by omega)) (by rfl) T.g_check_orders T.f_check_orders.kp T.b_check_orders .nil pass0 (pa_cons (pv 2) (pa_cons (pe_meth0 (pv 0) T.cl_M T.m_dishes G_Meal_dishes (hr.mono (by omega)) T.b_Meal_dishes .nil pass0) pa_nil))))
 (pss_one (ps_ret (pe_call G_goes_round (hr.mono (by omega)) (by rfl) T.g_goes_round T.f_goes_round.kp T.b_goes_round .nil pass0 (pa_cons (pv 3) (pa_cons (pe_meth0 (pv 1) T.cl T.m_rows G_Hanging_rows (hr.mono (by omega)) T.b_Hanging_rows .nil pass0) (pa_cons (pv 0) (pa_cons (pv 2) pa_nil))))))))), ?_⟩
    refine ⟨_, rfl, _, rfl, p, b, ys, ys, lo, hi, _, es, hk, rfl, B.m, B.h, B.len, B.sok, B.sok, rfl, fun H1 s1 => ?_⟩
    have B1 := B.up s1
    obtain ⟨dx, qb, qw, qp, kvs, us, uq, hp, _⟩ := id B1.m.ex
    refine ⟨_, rfl, _, rfl, p, dx, _, rfl, hp, rfl, p, ys, lo, hi, _, es, rfl, B1.m, fun l H2 kv nl s2 hl hP => ?_⟩
    have B2 := B1.up s2
    refine ⟨o, l, ps, kv, ys, rfl, B2.o, .inl hl, hP.keys, B.ok, fun H3 s3 => ?_⟩
    have B3 := B2.up s3
    have S3 := (s1.trans s2).trans s3
    obtain ⟨q, dy, hb, hg⟩ := hg_at B3.h
    refine ⟨_, rfl, _, rfl, b, dy, _, rfl, hb, rfl, b, q, _, rfl, hg, fun l2 nl2 => ?_⟩
    have s4 := Same.new nl2 (o := .dK (kvR (rowsF ys hk)))
    exact ⟨_, rfl, _, rfl, l2, p, o, rfl, fun H' s => k H' ((S3.trans s4).trans s)⟩
end
end K5
set_option Elab.async false
set_option linter.all false
set_option maxRecDepth 100000
set_option maxHeartbeats 4000000
namespace K5
open PySem L2
local macro_rules | `(tactic| walk_at "rd1") => `(tactic| first
  | refine ⟨_, _, rfl, rfl, ?_⟩
  | refine ⟨_, _, _, _, rfl, rfl, SqL.of (by assumption), rfl, ?_⟩
  | refine ⟨_, _, _, _, rfl, rfl, (by assumption), rfl, ?_⟩
  | refine .inl ⟨_, rfl, ?_⟩
  | refine ⟨_, rfl, ?_⟩
  | refine ⟨(by unfold CMul; omega), ?_⟩
  | refine ⟨(by unfold CPow; omega), ?_⟩
  | refine ⟨(by (try dsimp only); omega), ?_⟩
  | refine ⟨(by unfold CDiv; omega), ?_⟩
  | fail "rd1")
local macro_rules | `(tactic| walk_at "rd") => `(tactic| repeat' (walk_at "rd1"))
open Own
section
variable {P : Program} {w : World} {K : PySem.W.Frag} {mg : Str → Option Value} {base : Heap} {A : Ad}
/-- what stands while a turn's orders are tried -/
structure F23 (K : PySem.W.Frag) (CM CH : Addr) (st c p hg l t1 t2 t3 u2 u3 : Addr) (b : Int) (ys : List Str) (lo hi : Str → Int) (hk : Str → Str) (ps : List (Str × Str)) (g1 bent : V) (k : Nat) (E : Hp) : Prop where
  sta : Sta E st c b
  m : MlAt K CM E p ys lo hi [] []
  h : HgF CH E hg ys hk
  hl : E l = some (.lst [.ref t1, .ref t2, .ref t3])
  h1 : E t1 = some (.tup [g1, .non])
  h2 : E t2 = some (.tup [bent, .ref u2])
  h3 : E t3 = some (.tup [.non, .ref u3])
  d2 : E u2 = some (.tup [.str "order", .int k])
  d3 : E u3 = some (.tup [.str "order", .int 0])
  o : OrdV K E g1 ps
  bad : BadO K E ys bent k
theorem HgF.upS {CH : Addr} {E E' : Hp} {b : Addr} {ys : List Str} {hk : Str → Str} (h : HgF CH E b ys hk) (s : Same E E') : HgF CH E' b ys hk := by
  obtain ⟨dy, qh, h1, h2⟩ := hgF h
  exact ⟨dy, qh, s _ _ h1, s _ _ h2⟩
theorem F23.mono {CM CH : Addr} {st c p hg l t1 t2 t3 u2 u3 : Addr} {b : Int} {ys : List Str} {lo hi : Str → Int} {hk : Str → Str} {ps : List (Str × Str)} {g1 bent : V} {k : Nat} : MonoH (F23 K CM CH st c p hg l t1 t2 t3 u2 u3 b ys lo hi hk ps g1 bent k) :=
  fun _ _ s F => ⟨F.sta.same s, F.m.up s, F.h.upS s, s _ _ F.hl, s _ _ F.h1, s _ _ F.h2, s _ _ F.h3, s _ _ F.d2, s _ _ F.d3, F.o.up s, F.bad.up s⟩
/-- what a tried call tells: nothing, or the place of a bad order -/
def VD (H : Hp) (v : V) (d : PyData) : Prop := (v = .non ∧ d = .none) ∨ ∃ (t : Addr) (k : Int), v = .ref t ∧ H t = some (.tup [.str "order", .int k]) ∧ d = .tuple [.str "order", .int k]
theorem VD.up {H H' : Hp} {v : V} {d : PyData} (h : VD H v d) (s : Same H H') : VD H' v d := h.imp_right fun ⟨t, k, e, q, z⟩ => ⟨t, k, e, s _ _ q, z⟩
theorem VD.dp {H : Hp} {v : V} {d : PyData} (h : VD H v d) : Dp K H v d := by
  rcases h with ⟨rfl, rfl⟩ | ⟨t, k, rfl, q, rfl⟩
  · exact .non
  · exact .tup (SqT.of q) (.cons (.str _) (.cons (.int _) .nil))
theorem VD.ofM {H : Hp} {M : Addr} {xs : List V} {v : V} {d : PyData} (h : VD H v d) (hM : H M = some (.lst xs)) : VD (nE H M) v d :=
  h.imp_right fun ⟨t, k, e, q, z⟩ => ⟨t, k, e, nE_of (er_of (fun w => by rw [w, hM] at q; cases q) q) (fun _ z => nomatch z), z⟩
theorem VD.dep {H : Hp} {v : V} {d : PyData} (h : VD H v d) : d.depth < 2 ∧ wid d = true := by
  rcases h with ⟨_, rfl⟩ | ⟨t, k, _, _, rfl⟩
  · exact ⟨by simp [PyData.depth], rfl⟩
  · exact ⟨by simp [PyData.depth, PyData.depthAll], rfl⟩
/-- the list of what was told so far -/
structure Tn (Ts : List (Addr × Str)) (H0 : Hp) (F : Hp → Prop) (M : Addr) (d : PyData) (xs : List V) (H : Hp) : Prop where
  l : Lp Ts H0 F M xs H
  v : ∀ v ∈ xs, VD (nE H M) v d
theorem Tn.ext {Ts : List (Addr × Str)} {H0 C G : Hp} {F : Hp → Prop} {M : Addr} {d : PyData} {xs : List V} (L : Tn Ts H0 F M d xs C) (hF : MonoH F) (e : LamX.ExtN C G) (t : LamX.Tabs Ts G) : Tn Ts H0 F M d xs G := ⟨L.l.ext hF e t, fun v m => (L.v v m).up (nE_ext e)⟩
theorem Tn.same {Ts : List (Addr × Str)} {H0 C G : Hp} {F : Hp → Prop} {M : Addr} {d : PyData} {xs : List V} (L : Tn Ts H0 F M d xs C) (hF : MonoH F) (s : Same C G) : Tn Ts H0 F M d xs G := ⟨L.l.same hF s, fun v m => (L.v v m).up (nE_mono s)⟩
theorem Tn.app {Ts : List (Addr × Str)} {H0 G : Hp} {F : Hp → Prop} {M : Addr} {d : PyData} {xs : List V} {v : V} (L : Tn Ts H0 F M d xs G) (h : VD G v d) : Tn Ts H0 F M d (xs ++ [v]) (upd G M (.lst (xs ++ [v]))) := by
  have eM : nE (upd G M (.lst (xs ++ [v]))) M = nE G M := by unfold nE; rw [er_upd]
  exact ⟨L.l.app v, fun w m => by
    rw [eM]
    rcases List.mem_append.mp m with m | m
    · exact L.v w m
    · rw [List.mem_singleton.mp m]; exact h.ofM L.l.at_⟩
/-- a meal, a hanging, and orders with what is due for them -/
structure Cs (K : PySem.W.Frag) (CM CH : Addr) (E : Hp) (p hg : Addr) (g : V) (ys : List Str) (hk : Str → Str) (W : Str → List Str) (lo hi : Str → Int) (ps : List (Str × Str)) (d : PyData) : Prop where
  m : MlAt K CM E p ys lo hi [] []
  h : HgF CH E hg ys hk
  c : (d = .none ∧ OrdV K E g ps) ∨ ∃ k : Nat, d = .tuple [.str "order", .int (k : Int)] ∧ BadO K E ys g k
  ok : OrdOk ys ps
  O : ∃ rk, ROk rk (rowsF ys hk)
  srt : PyProof.Rows.sortedS ys = true
  W : WaysOk ys hk W
  len : ys.length < 64
  sok : ∀ n ∈ ys, PyData.strOk n = true
  pl : ps.length ≤ 100
theorem Cs.mh {CM CH : Addr} {E : Hp} {p hg : Addr} {g : V} {ys : List Str} {hk : Str → Str} {W : Str → List Str} {lo hi : Str → Int} {ps : List (Str × Str)} {d : PyData} (C : Cs K CM CH E p hg g ys hk W lo hi ps d) (o : OrdV K E g ps) : MH K CM CH E p hg g ys hk W lo hi [] [] ps :=
  ⟨C.m, C.h, o, (fun _ m => nomatch m), C.ok, C.O, C.srt, C.W⟩
def TdQ (Q : VK) : VK := fun v H1 => ∃ u, (some (some V.non) : Option (Option V)) = some (some u) ∧ Q u H1
theorem sd_int {G : Hp} {x : Int} {y : V} (h : SD K 1 G (.int x) y) : y = .int x := by
  rcases h with ⟨d, h1, h2, _⟩ | ⟨a, b, e, _⟩
  · cases h1
    cases h2
    rfl
  · cases e
theorem Cs.ra {E : Hp} {CB CN : Addr} {k : Nat} {Q : VK} (h : ∀ v H', Same E H' → VD H' v (.tuple [.str "order", .int (k : Int)]) → Q v H') : RaO K CB E k (EchO CB CN Q) := fun y dd H' s hdd sd => by
  obtain rfl := sd_int sd
  exact .inl ⟨rfl, dd, _, rfl, hdd, fun t nt => h _ _ (s.trans (Same.new nt)) (.inr ⟨t, k, rfl, upd_same, rfl⟩)⟩
theorem Cs.early {CM CH CK CB CN : Addr} {E : Hp} {p hg : Addr} {g : V} {ys : List Str} {hk : Str → Str} {W : Str → List Str} {lo hi : Str → Int} {ps : List (Str × Str)} {d : PyData} {Q : VK} (C : Cs K CM CH E p hg g ys hk W lo hi ps d) (h : ∀ v H', Same E H' → VD H' v d → Q v H') :
    spEarly K CM CH CK [.ref p, .ref hg, g] E (TdQ Q) (EchO CB CN Q) ∨ spOrdX K CM CH CB 0 [.ref p, .ref hg, g] E (TdQ Q) (EchO CB CN Q) := by
  rcases C.c with ⟨rfl, o⟩ | ⟨k, rfl, b⟩
  · exact .inl ⟨p, hg, g, ys, hk, W, lo, hi, [], [], ps, rfl, C.mh o, Nat.zero_le _, C.pl, fun t L H' s _ _ _ _ _ => ⟨.non, rfl, h _ _ s (.inl ⟨rfl, rfl⟩)⟩, fun is H' s _ => ⟨.non, rfl, h _ _ s (.inl ⟨rfl, rfl⟩)⟩⟩
  · exact .inr ⟨p, hg, g, [], ys, lo, hi, [], [], hk, k, rfl, rfl, C.m, C.h, C.len, C.sok, b, Cs.ra h⟩
theorem Cs.late {CM CH CB CN : Addr} {E : Hp} {p hg : Addr} {g : V} {ys : List Str} {hk : Str → Str} {W : Str → List Str} {lo hi : Str → Int} {ps : List (Str × Str)} {d : PyData} {Q : VK} (C : Cs K CM CH E p hg g ys hk W lo hi ps d) (h : ∀ v H', Same E H' → VD H' v d → Q v H') :
    spLate K CM CH [.ref p, .ref hg, g] E (TdQ Q) (EchO CB CN Q) ∨ spOrdX K CM CH CB 0 [.ref p, .ref hg, g] E (TdQ Q) (EchO CB CN Q) := by
  rcases C.c with ⟨rfl, o⟩ | ⟨k, rfl, b⟩
  · exact .inl ⟨p, hg, g, ys, hk, W, lo, hi, [], [], ps, rfl, C.mh o, Nat.zero_le _, C.pl, fun t L _ H' s _ _ _ _ _ _ => ⟨.non, rfl, h _ _ s (.inl ⟨rfl, rfl⟩)⟩, fun is H' s _ => ⟨.non, rfl, h _ _ s (.inl ⟨rfl, rfl⟩)⟩⟩
  · exact .inr ⟨p, hg, g, [], ys, lo, hi, [], [], hk, k, rfl, rfl, C.m, C.h, C.len, C.sok, b, Cs.ra h⟩
theorem Cs.ring {CM CH CB CN : Addr} {E : Hp} {p hg : Addr} {g : V} {ys : List Str} {hk : Str → Str} {W : Str → List Str} {lo hi : Str → Int} {ps : List (Str × Str)} {d : PyData} {Q : VK} (C : Cs K CM CH E p hg g ys hk W lo hi ps d) (h : ∀ v H', Same E H' → VD H' v d → Q v H') :
    spRing K CM CH [.ref p, .ref hg, g] E (TdQ Q) (EchO CB CN Q) ∨ spOrdX K CM CH CB 0 [.ref p, .ref hg, g] E (TdQ Q) (EchO CB CN Q) := by
  rcases C.c with ⟨rfl, o⟩ | ⟨k, rfl, b⟩
  · exact .inl ⟨p, hg, g, ys, hk, W, lo, hi, [], [], ps, rfl, C.mh o, Nat.zero_le _, C.pl, fun L H' s _ _ => ⟨.non, rfl, h _ _ s (.inl ⟨rfl, rfl⟩)⟩, fun l is H' s _ _ _ _ => ⟨.non, rfl, h _ _ s (.inl ⟨rfl, rfl⟩)⟩⟩
  · exact .inr ⟨p, hg, g, [], ys, lo, hi, [], [], hk, k, rfl, rfl, C.m, C.h, C.len, C.sok, b, Cs.ra h⟩
theorem Cs.isring {CM CH CB CN : Addr} {E : Hp} {p hg : Addr} {g : V} {ys : List Str} {hk : Str → Str} {W : Str → List Str} {lo hi : Str → Int} {ps : List (Str × Str)} {d : PyData} {Q : VK} (C : Cs K CM CH E p hg g ys hk W lo hi ps d) (h : ∀ v H', Same E H' → VD H' v d → Q v H') :
    spIsRingN K CM CH [.ref p, .ref hg, g, .non] E (TdQ Q) (EchO CB CN Q) ∨ spOrdX K CM CH CB 1 [.ref p, .ref hg, g, .non] E (TdQ Q) (EchO CB CN Q) := by
  rcases C.c with ⟨rfl, o⟩ | ⟨k, rfl, b⟩
  · exact .inl ⟨p, hg, g, ys, hk, W, lo, hi, [], [], ps, rfl, C.mh o, fun H' s => ⟨.non, rfl, h _ _ s (.inl ⟨rfl, rfl⟩)⟩⟩
  · exact .inr ⟨p, hg, g, [.non], ys, lo, hi, [], [], hk, k, rfl, rfl, C.m, C.h, C.len, C.sok, b, Cs.ra h⟩
/-- what is wanted of row_of -/
def rowD : PyData → PyData
  | .none => .tuple [.str "row", .none]
  | d => d
theorem Cs.rowof {CM CH CB CN : Addr} {E : Hp} {p hg : Addr} {g : V} {ys : List Str} {hk : Str → Str} {W : Str → List Str} {lo hi : Str → Int} {ps : List (Str × Str)} {d : PyData} {Q : VK} (C : Cs K CM CH E p hg g ys hk W lo hi ps d) (h : ∀ v H', Same E H' → Dp K H' v (rowD d) → Q v H') :
    spRowOfX K 3 CM CH CN [.ref p, .ref hg, g, .non] E (TdQ Q) (EchO CB CN Q) ∨ spOrdX K CM CH CB 1 [.ref p, .ref hg, g, .non] E (TdQ Q) (EchO CB CN Q) := by
  rcases C.c with ⟨rfl, o⟩ | ⟨k, rfl, b⟩
  · exact .inl ⟨p, hg, g, .non, ys, hk, W, lo, hi, [], [], ps, rfl, C.mh o, .inl ⟨"NoneType", .base .non, by decide +kernel, by decide +kernel⟩, .inl ⟨.none, .non, by simp [PyData.depth], rfl⟩, fun y dd H' s _ _ => .inr ⟨rfl, fun t nt => h _ _ (s.trans (Same.new nt)) (.tup (SqT.of upd_same) (.cons (.str _) (.cons .non .nil)))⟩⟩
  · exact .inr ⟨p, hg, g, [.non], ys, lo, hi, [], [], hk, k, rfl, rfl, C.m, C.h, C.len, C.sok, b, Cs.ra fun v H' s vd => h v H' s vd.dp⟩
theorem NoDV.nt {H : Hp} {ks : List Str} {x : V} (h : NoDV K H ks x) : NoDV K (nt H) ks x := h.imp_right fun ⟨t, a, b⟩ => ⟨t, tyXNt a, b⟩
theorem OddO.nt {H : Hp} {ks : List Str} {x : V} (h : OddO K H ks x) : OddO K (nt H) ks x := by
  cases h with
  | no h h1 h2 => exact .no (tyXNt h) h1 h2
  | len h l => exact .len (sxNt h) l
  | one h n => exact .one (sxNt h) n.nt
  | two h m n => exact .two (sxNt h) m n.nt
  | same h m => exact .same (sxNt h) m
theorem BadO.nt {H : Hp} {ks : List Str} {o : V} {k : Nat} (h : BadO K H ks o k) : BadO K (nt H) ks o k := by
  rcases h with ⟨e, t, h1, h2⟩ | ⟨a, xs, e, hq, hg, x, hx, ho⟩
  · exact .inl ⟨e, t, tyXNt h1, h2⟩
  · exact .inr ⟨a, xs, e, sxNt hq, fun i y lt hy => by obtain ⟨b, p, e1, q, r⟩ := hg i y lt hy; exact ⟨b, p, e1, sxNt q, r⟩, x, hx, ho.nt⟩
theorem F23.nt {CM CH : Addr} {st c p hg l t1 t2 t3 u2 u3 : Addr} {b : Int} {ys : List Str} {lo hi : Str → Int} {hk : Str → Str} {ps : List (Str × Str)} {g1 bent : V} {k : Nat} {E : Hp} (F : F23 K CM CH st c p hg l t1 t2 t3 u2 u3 b ys lo hi hk ps g1 bent k E) : F23 K CM CH st c p hg l t1 t2 t3 u2 u3 b ys lo hi hk ps g1 bent k (nt E) := by
  obtain ⟨cs, i, l, m, n, e1, e2, r⟩ := F.sta.ex
  exact ⟨⟨⟨cs, i, l, m, n, nt_of e1 (fun _ z => by cases z), er_of (er_some e2).1 (nt_of (er_some e2).2 (fun _ z => by cases z)), r⟩⟩, F.m.nt, F.h.nt, nt_of F.hl (fun _ z => nomatch z), nt_of F.h1 (fun _ z => nomatch z), nt_of F.h2 (fun _ z => nomatch z), nt_of F.h3 (fun _ z => nomatch z), nt_of F.d2 (fun _ z => nomatch z), nt_of F.d3 (fun _ z => nomatch z), F.o.nt, F.bad.nt⟩
def spLawT (K : PySem.W.Frag) (P1 : Addr) : Sp := fun vs H Q _ => ∃ (a : Addr) (ns : List Int), vs = [.ref a] ∧ SqL K H a (ns.map V.int) ∧ ns.length ≤ 63 ∧ LamX.Tabs (T1 P1) H ∧ ∀ H', Q (.bl true) H'
theorem ok_lawT (T : Txt K mg A) {oc kW doc pm ct : Value} {od an : Option Addr} {osl : Array (Option Value)} {cL P1 : Addr}
    (lk : K.lookup A.a_law = some ⟨oc, od, .func (PySem.W.fnOf "law" "law" (defArgs s_law) (defBody s_law) (defScope s_law) .none kW doc pm an (.ref cL) ct), osl⟩) (hcd : PySem.W.codeIn K (.ref cL) "law" = true)
    (TBL : LamX.TabB base mg cL P1) : FnOk P w K mg base CX0 13 A.a_law (PySem.W.fnOf "law" "law" (defArgs s_law) (defBody s_law) (defScope s_law) .none kW doc pm an (.ref cL) ct) P_law (spLawT K P1) := by
  have G__law_fresh : FnOk P w K mg base CX0 1 A.a__law_fresh A.d__law_fresh P__law_fresh (spFresh K) := ok_fresh T
  have G__law_take : FnOk P w K mg base CX0 1 A.a__law_take A.d__law_take P__law_take spTake := ok_take T
  have G__law_one : FnOk P w K mg base CX0 2 A.a__law_one A.d__law_one P__law_one (spOne K) := ok_one T
  have G__law_mix : FnOk P w K mg base CX0 2 A.a__law_mix A.d__law_mix P__law_mix (spMix K) := ok_mix T
  have G__law_some : FnOk P w K mg base CX0 2 A.a__law_some A.d__law_some P__law_some (spSome K) := ok_some T
  have G__law_names : FnOk P w K mg base CX0 3 A.a__law_names A.d__law_names P__law_names (spNames K) := ok_names T
  have G__law_dishes : FnOk P w K mg base CX0 3 A.a__law_dishes A.d__law_dishes P__law_dishes (spDishes K) := ok_dishes T
  have G__law_hung : FnOk P w K mg base CX0 3 A.a__law_hung A.d__law_hung P__law_hung (spHung K) := ok_hung T
  have G__law_loose : FnOk P w K mg base CX0 4 A.a__law_loose A.d__law_loose P__law_loose (spLooseL K 2) := ok_looseL T 2
  have G__law_same : FnOk P w K mg base CX0 3 A.a__law_same A.d__law_same P__law_same (spSame K 3) := ok_same T 3
  have G_Meal___init__ : FnOk P w K mg base CX0 5 A.a_Meal___init__ A.d_Meal___init__ P_Meal___init__ (spInit K A.a_Meal) := ok_init T
  have G_Hanging___init__ : FnOk P w K mg base CX0 4 A.a_Hanging___init__ A.d_Hanging___init__ P_Hanging___init__ (spHInit A.a_Hanging) := ok_hinit T
  have GX_earliest : FnOk P w K mg base (L2.CX P w) 9 A.a_earliest A.d_earliest P_earliest (fun vs H Q E => spEarly K A.a_Meal A.a_Hanging A.a_Book vs H Q E ∨ spOrdX K A.a_Meal A.a_Hanging A.a_BadOrder 0 vs H Q E) := fnOr (fnLift (ok_early T)) (ok_earlyX T)
  have GX_latest : FnOk P w K mg base (L2.CX P w) 9 A.a_latest A.d_latest P_latest (fun vs H Q E => spLate K A.a_Meal A.a_Hanging vs H Q E ∨ spOrdX K A.a_Meal A.a_Hanging A.a_BadOrder 0 vs H Q E) := fnOr (fnLift (ok_late T)) (ok_lateX T)
  have GX_ring : FnOk P w K mg base (L2.CX P w) 9 A.a_ring A.d_ring P_ring (fun vs H Q E => spRing K A.a_Meal A.a_Hanging vs H Q E ∨ spOrdX K A.a_Meal A.a_Hanging A.a_BadOrder 0 vs H Q E) := fnOr (fnLift (ok_ring T)) (ok_ringX T)
  have GX_is_ring : FnOk P w K mg base (L2.CX P w) 8 A.a_is_ring A.d_is_ring P_is_ring (fun vs H Q E => spIsRingN K A.a_Meal A.a_Hanging vs H Q E ∨ spOrdX K A.a_Meal A.a_Hanging A.a_BadOrder 1 vs H Q E) := fnOr (fnLift (ok_isringN T)) (ok_isringX T)
  have GX_row_of : FnOk P w K mg base (L2.CX P w) 7 A.a_row_of A.d_row_of P_row_of (fun vs H Q E => spRowOfX K 3 A.a_Meal A.a_Hanging A.a_NoRow vs H Q E ∨ spOrdX K A.a_Meal A.a_Hanging A.a_BadOrder 1 vs H Q E) := fnOr (ok_rowofX T 3 (Nat.le_refl _)) (ok_rowofOX T)
  obtain ⟨dsM, vM1, bM1⟩ := T.bM1
  obtain ⟨dsL, vL, bL⟩ := T.bD_latest
  obtain ⟨ocT, odT, kVT, docT, pmT, anT, cdT, ctT, oslT, eT, lkT, hcT⟩ := T.f__law_tried.ex
  have hbT := T.b__law_tried
  rw [eT] at lkT hbT
  refine fn_of lk hcd sc_law (fun vs H Q E h => ?_) (fun A' outer s H vs Q E hr h => ?_)
  · obtain ⟨a, ns, rfl, _⟩ := h
    rfl
  · obtain ⟨a, ns, rfl, hS, hlen, hT, k⟩ := h
    refine ⟨_, PSs.nox (pss_cons (ps_set (i := 1) sc_law.nd rfl (Or.inr rfl) (pe_call G__law_fresh (hr.mono (by omega)) (by rfl) T.g__law_fresh T.f__law_fresh.kp T.b__law_fresh .nil pass0 (pa_cons (pv 0) pa_nil)))
 (pss_cons (ps_for PassesOwn.never rfl (pi_range1 (by rfl) T.range (pa_cons pe_int pa_nil)) (pg_name (i := 2) sc_law.nd rfl (Or.inl rfl))
 (pss_cons (ps_set (i := 3) sc_law.nd rfl (Or.inr rfl) (pe_call G__law_names (hr.mono (by omega)) (by rfl) T.g__law_names T.f__law_names.kp T.b__law_names .nil pass0 (pa_cons (pv 1) (pa_cons (pe_op op_add pe_int (pe_call G__law_take (hr.mono (by omega)) (by rfl) T.g__law_take T.f__law_take.kp T.b__law_take .nil pass0 (pa_cons (pv 1) (pa_cons pe_int pa_nil)))) pa_nil))))
 (pss_cons (ps_asg (pe_tup (pa_cons (pe_make T.mkM G_Meal___init__ (hr.mono (by omega)) (by rfl) T.g_Meal bM1 vM1 pass0 (pa_cons (pe_call G__law_dishes (hr.mono (by omega)) (by rfl) T.g__law_dishes T.f__law_dishes.kp T.b__law_dishes .nil pass0 (pa_cons (pv 1) (pa_cons (pv 3) (pa_cons pe_int pa_nil)))) pa_nil)) (pa_cons (pe_make T.mkH G_Hanging___init__ (hr.mono (by omega)) (by rfl) T.g_Hanging T.b_Hanging___init__ .nil pass0 (pa_cons (pe_call G__law_hung (hr.mono (by omega)) (by rfl) T.g__law_hung T.f__law_hung.kp T.b__law_hung .nil pass0 (pa_cons (pv 1) (pa_cons (pv 3) pa_nil))) pa_nil)) pa_nil))) (pg_tup (by rfl) (pgs_cons (pg_name (i := 4) sc_law.nd rfl (Or.inr rfl)) (pgs_cons (pg_name (i := 5) sc_law.nd rfl (Or.inr rfl)) pgs_nil))))
 (pss_cons (ps_setLc (i := 6) (own := [("_law_k", 14)]) (g := gName 14)  (by rfl) sc_law.nd rfl rfl (sw_true rfl rfl rfl (by decide +kernel)) (pi_range1 (by rfl) T.range (pa_cons (pe_call G__law_take (hr.mono (by omega)) (by rfl) T.g__law_take T.f__law_take.kp T.b__law_take .nil pass0 (pa_cons (pv 1) (pa_cons pe_int pa_nil))) pa_nil)) (blkOk_by (N := N_law) (sc := defScope s_law) (by decide +kernel)) (fun _ _ _ _ _ => pg_name (i := 14) sc_law.nd rfl (Or.inl rfl)) (fun _ _ _ _ _ => pts_nil) (fun _ _ _ _ _ => (pe_callTy (tupOf (K := K) rfl) (by rfl) T.tuple (by decide +kernel) (pa_cons (pe_slice (slLOf (K := K) rfl) (pe_call G__law_mix (hr.mono (by omega)) (by rfl) T.g__law_mix T.f__law_mix.kp T.b__law_mix .nil pass0 (pa_cons (pv 1) (pa_cons (pv 3) pa_nil))) po_none (po_some pe_int)) pa_nil))))
 (pss_cons (ps_set (i := 7) sc_law.nd rfl (Or.inl rfl) (pe_lst (pa_cons pe_non (pa_cons pe_int (pa_cons pe_str (pa_cons (pe_ix ix_list (pv 3) pe_int (fun _ _ => rfl)) (pa_cons (pe_tup pa_nil) (pa_cons (pe_tup (pa_cons (pe_ix ix_list (pv 3) pe_int (fun _ _ => rfl)) pa_nil)) (pa_cons (pe_tup (pa_cons (pe_ix ix_list (pv 3) pe_int (fun _ _ => rfl)) (pa_cons (pe_ix ix_list (pv 3) pe_int (fun _ _ => rfl)) pa_nil))) pa_nil)))))))))
 (pss_cons (ps_set (i := 7) sc_law.nd rfl (Or.inl rfl) (pe_op op_cat (pv 7) (pe_lst (pa_cons (pe_tup (pa_cons (pe_ix ix_list (pv 3) pe_int (fun _ _ => rfl)) (pa_cons pe_str pa_nil))) (pa_cons (pe_tup (pa_cons pe_str (pa_cons (pe_ix ix_list (pv 3) pe_int (fun _ _ => rfl)) pa_nil))) (pa_cons (pe_tup (pa_cons (pe_ix ix_list (pv 3) pe_int (fun _ _ => rfl)) (pa_cons pe_non pa_nil))) pa_nil))))))
 (pss_cons (ps_set (i := 7) sc_law.nd rfl (Or.inl rfl) (pe_op op_cat (pv 7) (pe_lst (pa_cons (pe_tup (pa_cons (pe_lst (pa_cons (pe_ix ix_list (pv 3) pe_int (fun _ _ => rfl)) pa_nil)) (pa_cons (pe_ix ix_list (pv 3) pe_int (fun _ _ => rfl)) pa_nil))) (pa_cons (pe_tup (pa_cons (pe_ix ix_list (pv 3) pe_int (fun _ _ => rfl)) (pa_cons (pe_ix ix_list (pv 3) pe_int (fun _ _ => rfl)) (pa_cons pe_int pa_nil)))) (pa_cons pe_dnewK (pa_cons pe_bl (pa_cons (pe_lst (pa_cons (pe_lst pa_nil) (pa_cons (pe_lst pa_nil) pa_nil))) pa_nil))))))))
 (pss_cons (ps_set (i := 8) sc_law.nd rfl (Or.inl rfl) (pe_call G__law_take (hr.mono (by omega)) (by rfl) T.g__law_take T.f__law_take.kp T.b__law_take .nil pass0 (pa_cons (pv 1) (pa_cons (pe_op op_add (pe_callB call_len_seq (by rfl) T.len PySem.boot_len (pa_cons (pv 6) pa_nil)) pe_int) pa_nil))))
 (pss_cons (ps_set (i := 9) sc_law.nd rfl (Or.inl rfl) (pe_op op_cat (pe_op op_cat (pe_op op_cat (pe_slice sl_list (pv 6) po_none (po_some (pv 8))) (pe_lst (pa_cons (pe_call G__law_one (hr.mono (by omega)) (by rfl) T.g__law_one T.f__law_one.kp T.b__law_one .nil pass0 (pa_cons (pv 1) (pa_cons (pv 7) pa_nil))) pa_nil))) (pe_slice sl_list (pv 6) (po_some (pv 8)) po_none)) (pe_call G__law_some (hr.mono (by omega)) (by rfl) T.g__law_some T.f__law_some.kp T.b__law_some .nil pass0 (pa_cons (pv 1) (pa_cons (pe_slice sl_list (pv 7) po_none (po_some pe_int)) pa_nil)))))
 (pss_one (ps_for PassesOwn.never rfl (pi_list (pe_lst (pa_cons (pe_tup (pa_cons (pe_call G__law_loose (hr.mono (by omega)) (by rfl) T.g__law_loose T.f__law_loose.kp T.b__law_loose .nil pass0 (pa_cons (pv 1) (pa_cons (pv 6) pa_nil))) (pa_cons pe_non pa_nil))) (pa_cons (pe_tup (pa_cons (pv 9) (pa_cons (pe_tup (pa_cons pe_str (pa_cons (pv 8) pa_nil))) pa_nil))) (pa_cons (pe_tup (pa_cons pe_non (pa_cons (pe_tup (pa_cons pe_str (pa_cons pe_int pa_nil))) pa_nil))) pa_nil))))) (pg_tup (by rfl) (pgs_cons (pg_name (i := 10) sc_law.nd rfl (Or.inr rfl)) (pgs_cons (pg_name (i := 11) sc_law.nd rfl (Or.inl rfl)) pgs_nil)))
 (pss_cons (ps_set (i := 12) sc_law.nd rfl (Or.inl rfl) (pe_lst (pa_cons (LamX.pe_lamcall (k := 9) (T := T1 P1) (by rfl) T.g__law_tried T.f__law_tried.kp lkT hcT hbT sc__law_tried rfl (Or.inl rfl) (tried_gives T) TBL rfl inL1 uqL1 (hr.mono (by omega)) (show LamX.LamS (defScope s_law) _ from LamX.lamS_by (by decide +kernel)) rfl (fun _ _ _ _ _ => rfl) (fun A2 o2 s2 H2 E2 f2 c2 hr2 => pe_call GX_earliest (hr2.mono (by omega)) (by rfl) T.g_earliest T.f_earliest.kp T.b_earliest .nil (passes_call (takes_of rfl rfl rfl rfl) (fun _ _ _ _ h => h)) (pa_cons (pv 4) (pa_cons (pv 5) (pa_cons (pv 10) pa_nil))))) pa_nil)))
 (pss_cons (ps_expr (pe_bm PySem.F.plainAttrs_list PySem.F.slot_list_append PySem.F.type_list_append mt_append (pv 12) (pa_cons (LamX.pe_lamcall (k := 9) (T := T1 P1) (by rfl) T.g__law_tried T.f__law_tried.kp lkT hcT hbT sc__law_tried rfl (Or.inl rfl) (tried_gives T) TBL rfl inL1 uqL1 (hr.mono (by omega)) (show LamX.LamS (defScope s_law) _ from LamX.lamS_by (by decide +kernel)) rfl (fun _ _ _ _ _ => rfl) (fun A2 o2 s2 H2 E2 f2 c2 hr2 => pe_call GX_latest (hr2.mono (by omega)) (by rfl) T.g_latest T.f_latest.kp T.b_latest .nil (passes_call (takes_of rfl rfl rfl rfl) (fun _ _ _ _ h => h)) (pa_cons (pv 4) (pa_cons (pv 5) (pa_cons (pv 10) pa_nil))))) pa_nil)))
 (pss_cons (ps_expr (pe_bm PySem.F.plainAttrs_list PySem.F.slot_list_append PySem.F.type_list_append mt_append (pv 12) (pa_cons (LamX.pe_lamcall (k := 9) (T := T1 P1) (by rfl) T.g__law_tried T.f__law_tried.kp lkT hcT hbT sc__law_tried rfl (Or.inl rfl) (tried_gives T) TBL rfl inL1 uqL1 (hr.mono (by omega)) (show LamX.LamS (defScope s_law) _ from LamX.lamS_by (by decide +kernel)) rfl (fun _ _ _ _ _ => rfl) (fun A2 o2 s2 H2 E2 f2 c2 hr2 => pe_call GX_ring (hr2.mono (by omega)) (by rfl) T.g_ring T.f_ring.kp T.b_ring .nil (passes_call (takes_of rfl rfl rfl rfl) (fun _ _ _ _ h => h)) (pa_cons (pv 4) (pa_cons (pv 5) (pa_cons (pv 10) pa_nil))))) pa_nil)))
 (pss_cons (ps_expr (pe_bm PySem.F.plainAttrs_list PySem.F.slot_list_append PySem.F.type_list_append mt_append (pv 12) (pa_cons (LamX.pe_lamcall (k := 9) (T := T1 P1) (by rfl) T.g__law_tried T.f__law_tried.kp lkT hcT hbT sc__law_tried rfl (Or.inl rfl) (tried_gives T) TBL rfl inL1 uqL1 (hr.mono (by omega)) (show LamX.LamS (defScope s_law) _ from LamX.lamS_by (by decide +kernel)) rfl (fun _ _ _ _ _ => rfl) (fun A2 o2 s2 H2 E2 f2 c2 hr2 => pe_call GX_is_ring (hr2.mono (by omega)) (by rfl) T.g_is_ring T.f_is_ring.kp T.b_is_ring .nil (passes_call (takes_of rfl rfl rfl rfl) (fun _ _ _ _ h => h)) (pa_cons (pv 4) (pa_cons (pv 5) (pa_cons (pv 10) (pa_cons pe_non pa_nil)))))) pa_nil)))
 (pss_cons (ps_if (pt_not (pt_val (pe_call G__law_same (hr.mono (by omega)) (by rfl) T.g__law_same T.f__law_same.kp T.b__law_same .nil pass0 (pa_cons (pv 12) (pa_cons (pe_op op_rep (pe_lst (pa_cons (pv 11) pa_nil)) pe_int) pa_nil)))))
 (pss_one (ps_ret pe_bl))
 pss_nil)
 (pss_cons (ps_set (i := 13) sc_law.nd rfl (Or.inl rfl) (pe_ifExp (pt_cmpR op_isN (pv 11) pe_non (nomark _)) (pe_tup (pa_cons pe_str (pa_cons pe_non pa_nil))) (pv 11)))
 (pss_one (ps_if (pt_not (pt_val (pe_call G__law_same (hr.mono (by omega)) (by rfl) T.g__law_same T.f__law_same.kp T.b__law_same .nil pass0 (pa_cons (LamX.pe_lamcall (k := 9) (T := T1 P1) (by rfl) T.g__law_tried T.f__law_tried.kp lkT hcT hbT sc__law_tried rfl (Or.inl rfl) (tried_gives T) TBL rfl inL1 uqL1 (hr.mono (by omega)) (show LamX.LamS (defScope s_law) _ from LamX.lamS_by (by decide +kernel)) rfl (fun _ _ _ _ _ => rfl) (fun A2 o2 s2 H2 E2 f2 c2 hr2 => pe_call GX_row_of (hr2.mono (by omega)) (by rfl) T.g_row_of T.f_row_of.kp T.b_row_of .nil (passes_call (takes_of rfl rfl rfl rfl) (fun _ _ _ _ h => h)) (pa_cons (pv 4) (pa_cons (pv 5) (pa_cons (pv 10) (pa_cons pe_non pa_nil)))))) (pa_cons (pv 13) pa_nil)))))
 (pss_one (ps_ret pe_bl))
 pss_nil)))))))))))))))))))
 (pss_one (ps_ret pe_bl)))), ?_⟩
    refine ⟨_, rfl, a, ns, rfl, hS, fun st c H1 sm S1 => ?_⟩
    have hT1 : LamX.Tabs (T1 P1) H1 := hT.ext fun b o e => (er_same _ _) _ _ (sm b o e)
    refine ⟨4, rfl, by decide, by decide, for_range (lo := 0) (n := (4 : Int).toNat) (fun i σ' H' => ∃ v2 v3 v4 v5 v6 v7 v8 v9 v10 v11 v12 v13 v14, σ' = [some (.ref a), some (.ref st), v2, v3, v4, v5, v6, v7, v8, v9, v10, v11, v12, v13, v14] ∧ BdT (T1 P1) st c (2000 * (i : Int)) H')
      ⟨_, _, _, _, _, _, _, _, _, _, _, _, _, rfl, by simpa using S1, hT1⟩ ?_ (fun σ' H' _ => k H')⟩
    clear hS sm S1 hT1 hT
    rintro i σ' H0 hi ⟨v2, v3, v4, v5, v6, v7, v8, v9, v10, v11, v12, v13, v14, rfl, B0⟩
    have hi4 : (i : Int) < 4 := by
      have : i < 4 := hi
      omega
    -- names
    refine ⟨_, rfl, _, rfl, st, c, 3, _, rfl, B0.sta, by omega, by omega, by omega, fun r o hr0 hr1 S1 => ⟨_, _, rfl, rfl, ?_⟩⟩
    have B1 := B0.gs (Gs.of_upd S1)
    generalize upd H0 st o = H1 at B1 ⊢
    clear S1 B0
    refine ⟨st, c, _, (2 + r).toNat, by rw [show (((2 + r).toNat : Nat) : Int) = 2 + r by omega]; rfl, B1.sta, by omega, by omega, fun pn ns H2 hnd hpool hnl g2 hn _ => ?_⟩
    have B2 := B1.gs g2
    have nl4 : ns.length ≤ 4 := by omega
    obtain ⟨n0, n1, nr, rfl⟩ := two_of (ys := ns) (by omega)
    have nok : ∀ s ∈ n0 :: n1 :: nr, PyData.strOk s = true := fun s h => pool_ok s (hpool s h)
    clear g2 B1
    -- dishes, the meal
    refine ⟨_, rfl, _, rfl, st, c, pn, _, _, 3, rfl, B2.sta, by omega, SqL.of hn, by omega, hnd, nok, by omega, by omega, fun pd ks kd H3 hpk g3 hD _ => ?_⟩
    have hn := g3.same _ _ hn
    have B3 := B2.gs g3
    have kN : ks.Nodup := hpk.nodup_iff.mpr hnd
    obtain ⟨lo, hi', hPd, hB⟩ := dish_fnW hD kN
    have hd := hD.at_
    clear hD g3 B2
    have kl : ks.length ≤ 4 := by rw [hpk.length_eq]; exact nl4
    have hB2 : ∀ n ∈ ks, (Nm n ∧ PyData.strOk n = true) ∧ 1 ≤ lo n ∧ lo n ≤ hi' n := fun n m => ⟨⟨pool_nm n (hpool n (hpk.mem_iff.mp m)), nok n (hpk.mem_iff.mp m)⟩, (hB n m).1⟩
    refine mk_meal ((er_same _ _) _ _ hd) (hPd.up (er_same _ _)).x kN hB2 (by omega) (.inr (stUp T.e0W (fun _ _ z => nomatch z))) .nil rfl (Nat.zero_le _) (fun _ m => nomatch m) (.inr (stUp T.e0 (fun _ _ z => nomatch z))) .nil rfl (Nat.zero_le _) (fun _ m => nomatch m) (fun p H4 ys np s4 MN yp ysr => ?_)
    have B4 := B3.same s4
    have e4 := er_mono (st := st) s4
    have M4 : MlAt K A.a_Meal (er H4 st) p ys lo hi' [] [] := MN _ (keep_er B4.sta)
    have hn := e4 _ _ hn
    clear MN e4 s4 np B3 hd hPd
    -- rows, the hanging
    refine ⟨_, rfl, _, rfl, st, c, pn, _, _, rfl, B4.sta, by omega, SqL.of hn, by omega, hnd, nok, fun pr rows H5 hpr tree g5 hr5 _ => ?_⟩
    have rN : (ksR rows).Nodup := hpr.nodup_iff.mpr hnd
    obtain ⟨hk, ehk⟩ := rows_fn rN
    generalize ksR rows = rs at hpr rN ehk
    subst ehk
    have M5 := M4.up g5.same
    have hn := g5.same _ _ hn
    have B5 := B4.gs g5
    have rl : rs.length ≤ 4 := by rw [hpr.length_eq]; exact nl4
    have hO : ROk (fun s => (ksR (rowsF rs hk)).idxOf s) (rowsF rs hk) := ROk.tree (by rw [ksR_F]; exact rN) (fun s m => by
      rw [ksR_F] at m
      exact ⟨pool_nm s (hpool s (hpr.mem_iff.mp m)), nok s (hpr.mem_iff.mp m)⟩) (by rw [← ksR_len, ksR_F]; omega) tree
    clear g5 M4 B4
    have ha5 := (er_same _ _) _ _ hr5
    rw [kvR_F] at ha5
    refine mk_hang ha5 hO (fun hg H6 y2 np s6 HG hp2 hs2 => ?_)
    obtain rfl : y2 = ys := asc_eq (hp2.trans (hpr.trans (yp.trans hpk).symm)) hs2 (sle_sorted ysr)
    have B6 := B5.same s6
    have HG := hgf_sta B6.sta HG
    have M6 := M5.up (er_mono (st := st) s6)
    have hn := er_mono (st := st) s6 _ _ hn
    clear M5 B5 s6 np ha5 hr5
    refine ⟨by show 2 ≤ sizeLine; decide, fun tt ntt => ⟨tt, _, rfl, SqT.of upd_same, rfl, _, _, rfl, _, _, rfl, rfl, ?_⟩⟩
    have s7 := Same.new ntt (o := .tup [.ref p, .ref hg])
    have e7 := er_mono (st := st) s7
    refine cast_heap (b := upd H6 tt (.tup [.ref p, .ref hg])) rfl ?_
    have hn := e7 _ _ hn
    have HG := HG.upS e7
    have M7 := M6.up e7
    have B7 := B6.same s7
    generalize upd H6 tt (.tup [.ref p, .ref hg]) = H7 at hn HG M7 B7 ⊢
    clear s7 e7 B6 M6 ntt
    have hOy := hO.perm hp2
    obtain ⟨W, hW⟩ := ways_ex hOy
    have ypn : y2.Perm (n0 :: n1 :: nr) := yp.trans hpk
    dsimp only [List.set]
    -- the orders
    refine ⟨_, rfl, st, c, 4, _, rfl, B7.sta, by omega, by omega, by omega, fun r o hr0 hr1 S1 => ⟨r, rfl, by omega, by omega, ?_⟩⟩
    have g8 := Gs.of_upd S1
    have B8 := B7.gs g8
    have hn := g8.same _ _ hn
    have HG := HG.upS g8.same
    have M8 := M7.up g8.same
    generalize upd H7 st o = H8 at hn HG M8 B8 ⊢
    clear M7 B7 g8 S1
    refine fun D nD => ?_
    have mD := B8.sta.ne nD
    have eD := er_none (st := st) nD
    refine lc_it (walk_range (lo := 0) (n := r.toNat)) (fun m G => ∃ ps : List (Str × Str), Gs st c H8 G (2000 * (i : Int) + 600 + 70 * (m : Int)) ∧ PrL K (er G st) D ps ∧ ps.length = m ∧ OrdOk (n0 :: n1 :: nr) ps)
      ⟨[], by simpa using ((Gs.refl (B8.le (b' := 2000 * (i : Int) + 600) (by omega) (by omega)).sta).new nD), ⟨[], er_of mD upd_same, .nil⟩, rfl, fun p m => nomatch m⟩ (fun _ _ _ _ => trivial) ?_ (fun H9 z => ?_)
    · rintro m x G G' hm ⟨ps, g, ⟨bs, hp1, hp2⟩, pl, pok⟩ ⟨rfl, rfl⟩
      have hm2 : (m : Int) < r := by omega
      have hnm := g.same _ _ hn
      refine ⟨rfl, _, rfl, _, rfl, st, c, pn, _, _, rfl, g.sta, by omega, SqL.of hnm, by omega, nok, fun q ys H2 yp g2 hq hq0 => ?_⟩
      have hp1 := g2.same _ _ hp1
      have hp2 := paired_imp (fun b (p : Str × Str) z => stUp (xs := [.str p.1, .str p.2]) z g2.same) hp2
      have yN : ys.Nodup := yp.nodup_iff.mpr hnd
      obtain ⟨x, y, rest, rfl⟩ := two_of (ys := ys) (by rw [yp.length_eq]; simp)
      refine ⟨2, rfl, q, _, rfl, SqL.of ((er_same _ _) _ _ hq), fun l nl => ?_⟩
      rw [show cutV ((x :: y :: rest).map V.str) none (some 2) = [.str x, .str y] from cutTs (ns := x :: y :: rest) (r := 2) (by decide) (by simp; omega)]
      refine ⟨l, _, rfl, .inl ⟨SqL.of upd_same, fun t nt => ?_⟩⟩
      have s3 := (Same.new nl (o := .lst [.str x, .str y])).trans (Same.new nt (o := .tup [.str x, .str y]))
      have g3 := (g.trans g2).trans (Gs.of_same g2.sta s3)
      have e3 := er_mono (st := st) s3
      have ht : er (upd (upd H2 l (.lst [.str x, .str y])) t (.tup [.str x, .str y])) st t = some (.tup [.str x, .str y]) := er_of ((g2.sta.same (Same.new nl)).ne nt) upd_same
      refine cast_heap (b := upd (upd H2 l (.lst [.str x, .str y])) t (.tup [.str x, .str y])) rfl ?_
      generalize upd (upd H2 l (.lst [.str x, .str y])) t (.tup [.str x, .str y]) = G3 at g3 e3 ht ⊢
      have hp1 := e3 _ _ hp1
      have hp2 := paired_imp (fun b (p : Str × Str) z => stUp (xs := [.str p.1, .str p.2]) z e3) hp2
      have bl : bs.length = ps.length := hp2.length
      have xn : x ≠ y := fun z => by
        have := (List.nodup_cons.mp yN).1
        rw [z] at this
        exact this List.mem_cons_self
      refine ⟨bs.map V.ref, (er_same _ _) _ _ hp1, by rw [List.length_map, bl, pl]; exact Nat.lt_of_le_of_lt (show m ≤ 3 by omega) (by decide), ps ++ [(x, y)], (g3.set B8.sta.hc eD mD).le (by omega) (by omega), ?_, by rw [List.length_append, List.length_singleton]; omega, fun p m => ?_⟩
      · rw [er_updp mD]
        exact PrL.snoc (p := (x, y)) hp1 hp2 (SqT.of ht)
      · rcases List.mem_append.mp m with m | m
        · exact pok p m
        · rw [List.mem_singleton.mp m]
          exact ⟨yp.mem_iff.mp List.mem_cons_self, yp.mem_iff.mp (List.mem_cons_of_mem _ List.mem_cons_self), xn⟩
    obtain ⟨ps, g, hp, pl, pok⟩ := z
    have B9 := B8.gs g
    have hn := g.same _ _ hn
    have HG := HG.upS g.same
    have M9 := M8.up g.same
    have pl3 : ps.length ≤ 3 := by omega
    clear B8 M8 g mD eD nD
    dsimp only [List.set]
    -- things that are no orders
    have hq9 : SqL K H9 pn (.str n0 :: .str n1 :: nr.map V.str) := SqL.of ((er_same _ _) _ _ hn)
    refine ⟨_, rfl, pn, _, 0, _, rfl, rfl, sqUp hq9 (Same.refl _), atI0 _ _, Nat.zero_le _, fun o1 f1 => ?_⟩
    have S1 := Same.new f1 (o := .tup [])
    have q1 : SqT K (upd H9 o1 (.tup [])) o1 [] := SqT.of upd_same
    refine cast_heap (b := upd H9 o1 (.tup [])) rfl ?_
    generalize upd H9 o1 (.tup []) = G1 at S1 q1 ⊢
    refine ⟨_, rfl, pn, _, 0, _, rfl, rfl, sqUp hq9 S1, atI0 _ _, by show 1 ≤ sizeLine; decide, fun o2 f2 => ?_⟩
    have s2 := Same.new f2 (o := .tup [.str n0])
    have q2 : SqT K (upd G1 o2 (.tup [.str n0])) o2 [.str n0] := SqT.of upd_same
    refine cast_heap (b := upd G1 o2 (.tup [.str n0])) rfl ?_
    generalize upd G1 o2 (.tup [.str n0]) = G2 at s2 q2 ⊢
    have S2 := S1.trans s2
    refine ⟨_, rfl, pn, _, 0, _, rfl, rfl, sqUp hq9 S2, atI0 _ _, _, rfl, pn, _, 0, _, rfl, rfl, sqUp hq9 S2, atI0 _ _, by show 2 ≤ sizeLine; decide, fun o3 f3 => ?_⟩
    have s3 := Same.new f3 (o := .tup [.str n0, .str n0])
    have q3 : SqT K (upd G2 o3 (.tup [.str n0, .str n0])) o3 [.str n0, .str n0] := SqT.of upd_same
    refine cast_heap (b := upd G2 o3 (.tup [.str n0, .str n0])) rfl ?_
    generalize upd G2 o3 (.tup [.str n0, .str n0]) = G3 at s3 q3 ⊢
    have S3 := S2.trans s3
    refine ⟨by show 7 ≤ sizeLine; decide, fun l1 f4 => ?_⟩
    have s4 := Same.new f4 (o := .lst [.non, .int 5, .str "ab", .str n0, .ref o1, .ref o2, .ref o3])
    have hl1 := upd_same (H := G3) (a := l1) (o := .lst [.non, .int 5, .str "ab", .str n0, .ref o1, .ref o2, .ref o3])
    refine cast_heap (b := upd G3 l1 (.lst [.non, .int 5, .str "ab", .str n0, .ref o1, .ref o2, .ref o3])) rfl ?_
    generalize upd G3 l1 (.lst [.non, .int 5, .str "ab", .str n0, .ref o1, .ref o2, .ref o3]) = G4 at s4 hl1 ⊢
    have S4 := S3.trans s4
    have q1 := stUp q1 ((s2.trans s3).trans s4)
    have q2 := stUp q2 (s3.trans s4)
    have q3 := stUp q3 s4
    clear s2 s3 s4 S1 S2 S3 f1 f2 f3 f4
    dsimp only [List.set]
    -- three more
    refine ⟨_, rfl, _, rfl, pn, _, 0, _, rfl, rfl, sqUp hq9 S4, atI0 _ _, by show 2 ≤ sizeLine; decide, fun o4 f4 => ?_⟩
    have s1 := Same.new f4 (o := .tup [.str n0, .str "nobody"])
    have q4 : SqT K (upd G4 o4 (.tup [.str n0, .str "nobody"])) o4 [.str n0, .str "nobody"] := SqT.of upd_same
    refine cast_heap (b := upd G4 o4 (.tup [.str n0, .str "nobody"])) rfl ?_
    generalize upd G4 o4 (.tup [.str n0, .str "nobody"]) = G5 at s1 q4 ⊢
    have S5 := S4.trans s1
    refine ⟨_, rfl, pn, _, 0, _, rfl, rfl, sqUp hq9 S5, atI0 _ _, by show 2 ≤ sizeLine; decide, fun o5 f5 => ?_⟩
    have s2 := Same.new f5 (o := .tup [.str "clock", .str n0])
    have q5 : SqT K (upd G5 o5 (.tup [.str "clock", .str n0])) o5 [.str "clock", .str n0] := SqT.of upd_same
    refine cast_heap (b := upd G5 o5 (.tup [.str "clock", .str n0])) rfl ?_
    generalize upd G5 o5 (.tup [.str "clock", .str n0]) = G6 at s2 q5 ⊢
    have S6 := S5.trans s2
    refine ⟨_, rfl, pn, _, 0, _, rfl, rfl, sqUp hq9 S6, atI0 _ _, by show 2 ≤ sizeLine; decide, fun o6 f6 => ?_⟩
    have s3 := Same.new f6 (o := .tup [.str n0, .non])
    have q6 : SqT K (upd G6 o6 (.tup [.str n0, .non])) o6 [.str n0, .non] := SqT.of upd_same
    refine cast_heap (b := upd G6 o6 (.tup [.str n0, .non])) rfl ?_
    generalize upd G6 o6 (.tup [.str n0, .non]) = G7 at s3 q6 ⊢
    have S7 := S6.trans s3
    refine ⟨by show 3 ≤ sizeLine; decide, fun l2 f7 => ?_⟩
    have s4 := Same.new f7 (o := .lst [.ref o4, .ref o5, .ref o6])
    have hl2 := upd_same (H := G7) (a := l2) (o := .lst [.ref o4, .ref o5, .ref o6])
    refine cast_heap (b := upd G7 l2 (.lst [.ref o4, .ref o5, .ref o6])) rfl ?_
    generalize upd G7 l2 (.lst [.ref o4, .ref o5, .ref o6]) = G8 at s4 hl2 ⊢
    have S8 := S7.trans s4
    refine ⟨l1, l2, _, _, rfl, rfl, (((s1.trans s2).trans s3).trans s4) _ _ hl1, hl2, by show 7 + 3 ≤ sizeLine; decide, fun l3 f8 => ?_⟩
    have s5 := Same.new f8 (o := .lst ([.non, .int 5, .str "ab", .str n0, .ref o1, .ref o2, .ref o3] ++ [.ref o4, .ref o5, .ref o6]))
    have hl3 := upd_same (H := G8) (a := l3) (o := .lst ([.non, .int 5, .str "ab", .str n0, .ref o1, .ref o2, .ref o3] ++ [.ref o4, .ref o5, .ref o6]))
    refine cast_heap (b := upd G8 l3 (.lst ([.non, .int 5, .str "ab", .str n0, .ref o1, .ref o2, .ref o3] ++ [.ref o4, .ref o5, .ref o6]))) rfl ?_
    generalize upd G8 l3 (.lst ([.non, .int 5, .str "ab", .str n0, .ref o1, .ref o2, .ref o3] ++ [.ref o4, .ref o5, .ref o6])) = G9 at s5 hl3 ⊢
    have S9 := S8.trans s5
    have z := (((s1.trans s2).trans s3).trans s4).trans s5
    have q1 := stUp q1 z
    have q2 := stUp q2 z
    have q3 := stUp q3 z
    have q4 := stUp q4 (((s2.trans s3).trans s4).trans s5)
    have q5 := stUp q5 ((s3.trans s4).trans s5)
    have q6 := stUp q6 (s4.trans s5)
    clear z s1 s2 s3 s4 s5 S4 S5 S6 S7 S8 f4 f5 f6 f7 f8 hl1 hl2
    dsimp only [List.set]
    -- five more
    refine ⟨_, rfl, _, rfl, pn, _, 0, _, rfl, rfl, sqUp hq9 S9, atI0 _ _, by show 1 ≤ sizeLine; decide, fun w1 f1 => ?_⟩
    have s1 := Same.new f1 (o := .lst [.str n0])
    have r1 := upd_same (H := G9) (a := w1) (o := .lst [.str n0])
    have nw1 := (B9.same S9).sta.ne f1
    refine cast_heap (b := upd G9 w1 (.lst [.str n0])) rfl ?_
    generalize upd G9 w1 (.lst [.str n0]) = G10 at s1 r1 ⊢
    refine ⟨_, rfl, pn, _, 1, _, rfl, rfl, sqUp hq9 (S9.trans s1), atI_nat (j := 1) rfl, by show 2 ≤ sizeLine; decide, fun w2 f2 => ?_⟩
    have s2 := Same.new f2 (o := .tup [.ref w1, .str n1])
    have r2 : SqT K (upd G10 w2 (.tup [.ref w1, .str n1])) w2 [.ref w1, .str n1] := SqT.of upd_same
    refine cast_heap (b := upd G10 w2 (.tup [.ref w1, .str n1])) rfl ?_
    generalize upd G10 w2 (.tup [.ref w1, .str n1]) = G11 at s2 r2 ⊢
    have z2 := (S9.trans s1).trans s2
    refine ⟨_, rfl, pn, _, 0, _, rfl, rfl, sqUp hq9 z2, atI0 _ _, _, rfl, pn, _, 1, _, rfl, rfl, sqUp hq9 z2, atI_nat (j := 1) rfl, by show 3 ≤ sizeLine; decide, fun w3 f3 => ?_⟩
    have s3 := Same.new f3 (o := .tup [.str n0, .str n1, .int 1])
    have r3 : SqT K (upd G11 w3 (.tup [.str n0, .str n1, .int 1])) w3 [.str n0, .str n1, .int 1] := SqT.of upd_same
    refine cast_heap (b := upd G11 w3 (.tup [.str n0, .str n1, .int 1])) rfl ?_
    generalize upd G11 w3 (.tup [.str n0, .str n1, .int 1]) = G12 at s3 r3 ⊢
    refine fun w4 f4 => ?_
    have s4 := Same.new f4 (o := .dK [])
    have r4 := upd_same (H := G12) (a := w4) (o := .dK [])
    refine cast_heap (b := upd G12 w4 (.dK [])) rfl ?_
    generalize upd G12 w4 (.dK []) = G13 at s4 r4 ⊢
    refine ⟨Nat.zero_le _, fun w5 f5 => ⟨Nat.zero_le _, fun w6 f6 => ⟨by show 2 ≤ sizeLine; decide, fun w7 f7 => ?_⟩⟩⟩
    have s5 := ((Same.new f5 (o := .lst [])).trans (Same.new f6 (o := .lst []))).trans (Same.new f7 (o := .lst [.ref w5, .ref w6]))
    have B13 := B9.same ((((S9.trans s1).trans s2).trans s3).trans s4)
    have nw5 := B13.sta.ne f5
    have nw7 := ((B13.same (Same.new f5)).same (Same.new f6)).sta.ne f7
    have r5 : (upd (upd (upd G13 w5 (.lst [])) w6 (.lst [])) w7 (.lst [.ref w5, .ref w6])) w5 = some (.lst []) := Same.new f7 _ _ (Same.new f6 _ _ upd_same)
    have r7 := upd_same (H := upd (upd G13 w5 (.lst [])) w6 (.lst [])) (a := w7) (o := .lst [.ref w5, .ref w6])
    refine cast_heap (b := upd (upd (upd G13 w5 (.lst [])) w6 (.lst [])) w7 (.lst [.ref w5, .ref w6])) rfl ?_
    generalize upd (upd (upd G13 w5 (.lst [])) w6 (.lst [])) w7 (.lst [.ref w5, .ref w6]) = G14 at s5 r5 r7 ⊢
    refine ⟨by show 5 ≤ sizeLine; decide, fun l4 f8 => ?_⟩
    have s6 := Same.new f8 (o := .lst [.ref w2, .ref w3, .ref w4, .bl true, .ref w7])
    have hl4 := upd_same (H := G14) (a := l4) (o := .lst [.ref w2, .ref w3, .ref w4, .bl true, .ref w7])
    refine cast_heap (b := upd G14 l4 (.lst [.ref w2, .ref w3, .ref w4, .bl true, .ref w7])) rfl ?_
    generalize upd G14 l4 (.lst [.ref w2, .ref w3, .ref w4, .bl true, .ref w7]) = G15 at s6 hl4 ⊢
    refine ⟨l3, l4, _, _, rfl, rfl, (((((s1.trans s2).trans s3).trans s4).trans s5).trans s6) _ _ hl3, hl4, by show 10 + 5 ≤ sizeLine; decide, fun lo5 f9 => ?_⟩
    obtain ⟨od, hod⟩ : ∃ od, od = ([.non, .int 5, .str "ab", .str n0, .ref o1, .ref o2, .ref o3] ++ [.ref o4, .ref o5, .ref o6]) ++ [.ref w2, .ref w3, .ref w4, V.bl true, .ref w7] := ⟨_, rfl⟩
    have s7 := Same.new f9 (o := .lst (([.non, .int 5, .str "ab", .str n0, .ref o1, .ref o2, .ref o3] ++ [.ref o4, .ref o5, .ref o6]) ++ [.ref w2, .ref w3, .ref w4, V.bl true, .ref w7]))
    have hlo := upd_same (H := G15) (a := lo5) (o := .lst (([.non, .int 5, .str "ab", .str n0, .ref o1, .ref o2, .ref o3] ++ [.ref o4, .ref o5, .ref o6]) ++ [.ref w2, .ref w3, .ref w4, V.bl true, .ref w7]))
    generalize upd G15 lo5 (.lst (([.non, .int 5, .str "ab", .str n0, .ref o1, .ref o2, .ref o3] ++ [.ref o4, .ref o5, .ref o6]) ++ [.ref w2, .ref w3, .ref w4, V.bl true, .ref w7])) = G16 at s7 hlo ⊢
    rw [← hod] at hlo
    have z7 := s7
    have z6 := s6.trans z7
    have z5 := s5.trans z6
    have z4 := s4.trans z5
    have z3 := s3.trans z4
    have zz2 := s2.trans z3
    have z1 := s1.trans zz2
    have S16 := S9.trans z1
    have B16 := B9.same S16
    have n0y : n0 ∈ y2 := ypn.mem_iff.mpr List.mem_cons_self
    have nby : ("nobody" : Str) ∉ y2 := fun m => absurd (hpool _ (ypn.mem_iff.mp m)) (by decide +kernel)
    have ncy : ("clock" : Str) ∉ y2 := fun m => absurd (hpool _ (ypn.mem_iff.mp m)) (by decide +kernel)
    have odd : ∀ v ∈ od, OddO K (er G16 st) y2 v := fun v m => by
      subst hod
      have eT : ∀ {a : Addr} {xs : List V}, SqT K G16 a xs → SqX K (er G16 st) a xs := fun h => .inr (sqt_sta B16.sta h)
      simp only [List.cons_append, List.nil_append, List.mem_cons, List.not_mem_nil, or_false] at m
      rcases m with rfl | rfl | rfl | rfl | rfl | rfl | rfl | rfl | rfl | rfl | rfl | rfl | rfl | rfl | rfl
      · exact .no (.base .non) (by decide +kernel) (by decide +kernel)
      · exact .no (.base (.int _)) (by decide +kernel) (by decide +kernel)
      · exact .no (.base (.str _)) (by decide +kernel) (by decide +kernel)
      · exact .no (.base (.str _)) (by decide +kernel) (by decide +kernel)
      · exact .len (eT (stUp q1 z1)) (by simp)
      · exact .len (eT (stUp q2 z1)) (by simp)
      · exact .same (eT (stUp q3 z1)) n0y
      · exact .two (eT (stUp q4 z1)) n0y (.inl ⟨_, rfl, nby⟩)
      · exact .one (eT (stUp q5 z1)) (.inl ⟨_, rfl, ncy⟩)
      · exact .two (eT (stUp q6 z1)) n0y (.inr ⟨_, .base .non, by decide +kernel⟩)
      · exact .one (eT (stUp r2 z3)) (.inr ⟨"list", .base (.lst (er_of nw1 (zz2 _ _ r1))), by decide +kernel⟩)
      · exact .len (eT (stUp r3 z4)) (by simp)
      · exact .no (.base (.dK (er_sta B16.sta (z5 _ _ r4) (fun _ z => nomatch z)))) (by decide +kernel) (by decide +kernel)
      · exact .no (.base (.bl _)) (by decide +kernel) (by decide +kernel)
      · exact .one (.inl (SqL.of (er_of nw7 (z6 _ _ r7)))) (.inr ⟨"list", .base (.lst (er_of nw5 (z6 _ _ r5))), by decide +kernel⟩)
    have hlo := er_of (B9.same (S9.trans (((((s1.trans s2).trans s3).trans s4).trans s5).trans s6)) |>.sta.ne f9) hlo
    have hod15 : od.length = 15 := by rw [hod]; rfl
    have E16 := er_mono (st := st) S16
    have hp := hp.up E16
    have HG := HG.upS E16
    have M16 := M9.up E16
    clear hod q1 q2 q3 q4 q5 q6 r1 r2 r3 r4 r5 r7 s1 s2 s3 s4 s5 s6 s7 z1 z2 zz2 z3 z4 z5 z6 z7 E16 S16 S9 hq9 B9 M9 hl3 hl4 f1 f2 f3 f4 f5 f6 f7 f8 f9 nw1 nw5 nw7 B13 n0y hn
    dsimp only [List.set]
    -- where, and the bent list
    obtain ⟨bs, hp1, hp2'⟩ := hp
    have bl : bs.length = ps.length := hp2'.length
    refine ⟨_, rfl, _, rfl, D, _, rfl, .inl (SqL.of ((er_same _ _) _ _ hp1)), _, _, rfl, rfl, st, c, _, _, rfl, B16.sta, by omega, by rw [List.length_map]; omega, by rw [List.length_map]; omega, fun r o hr0 hr1 S1 => ?_⟩
    rw [List.length_map] at hr1
    have g17 := Gs.of_upd S1
    have B17 := B16.gs g17
    have hp1 := g17.same _ _ hp1
    have hp2' := paired_imp (fun b (p : Str × Str) z => stUp (xs := [.str p.1, .str p.2]) z g17.same) hp2'
    have HG := HG.upS g17.same
    have M17 := M16.up g17.same
    have hlo := g17.same _ _ hlo
    have odd : ∀ v ∈ od, OddO K (er (upd G16 st o) st) y2 v := fun v m => (odd v m).up g17.same
    generalize upd G16 st o = G17 at hp1 hp2' HG M17 hlo odd B17 ⊢
    clear g17 S1 B16 M16
    dsimp only [List.set]
    obtain ⟨m, rfl⟩ : ∃ m : Nat, r = (m : Int) := ⟨r.toNat, by omega⟩
    have hml : m ≤ (bs.map V.ref).length := by rw [List.length_map]; omega
    have E0' := Same.refl (er G17 st)
    refine ⟨_, rfl, _, rfl, (m : Int), rfl, D, _, rfl, SqL.of ((er_same _ _) _ _ hp1), fun a1 f1 => ?_⟩
    rw [cutT hml]
    have h1 := er_of (B17.sta.ne f1) (upd_same (H := G17) (a := a1) (o := .lst ((bs.map V.ref).take m)))
    have E1 := er_mono (st := st) (Same.new f1 (o := .lst ((bs.map V.ref).take m)))
    have B1 := B17.same (Same.new f1 (o := .lst ((bs.map V.ref).take m)))
    generalize upd G17 a1 (.lst ((bs.map V.ref).take m)) = J1 at h1 E1 B1 ⊢
    refine ⟨_, rfl, _, rfl, st, c, lo5, od, _, rfl, B1.sta, by omega, SqL.of (E1 _ _ hlo), by omega, by omega, fun i5 v J2 hv g2 => ⟨by show 1 ≤ sizeLine; decide, fun a2 f2 => ?_⟩⟩
    have vm : v ∈ od := List.mem_of_getElem? hv
    have B2 := (B1.gs g2).same (Same.new f2 (o := .lst [v]))
    have E2 := g2.same.trans (er_mono (st := st) (Same.new f2 (o := .lst [v])))
    have h1 := E2 _ _ h1
    have h2 := er_of ((B1.gs g2).sta.ne f2) (upd_same (H := J2) (a := a2) (o := .lst [v]))
    have E2 := E1.trans E2
    generalize upd J2 a2 (.lst [v]) = J3 at h1 h2 E2 B2 ⊢
    clear g2 f2 E1 B1 f1 hv
    have l1 : ((bs.map V.ref).take m).length ≤ 3 := by rw [List.length_take, List.length_map]; omega
    refine ⟨a1, a2, _, _, rfl, rfl, (er_same _ _) _ _ h1, (er_same _ _) _ _ h2, Nat.le_trans (show _ ≤ 3 + 1 from Nat.add_le_add l1 (Nat.le_refl _)) (by decide), fun a3 f3 => ?_⟩
    obtain ⟨x3, hx3⟩ : ∃ x3, x3 = (bs.map V.ref).take m ++ [v] := ⟨_, rfl⟩
    rw [← hx3]
    have x3l : x3.length ≤ 4 := by rw [hx3, List.length_append, List.length_singleton]; omega
    have h3 := er_of (B2.sta.ne f3) (upd_same (H := J3) (a := a3) (o := .lst x3))
    have E3 := E2.trans (er_mono (st := st) (Same.new f3 (o := .lst x3)))
    have B3 := B2.same (Same.new f3 (o := .lst x3))
    generalize upd J3 a3 (.lst x3) = J4 at h3 E3 B3 ⊢
    clear h1 h2 E2 B2 f3
    refine ⟨_, rfl, _, rfl, (m : Int), rfl, D, _, rfl, SqL.of ((er_same _ _) _ _ (E3 _ _ hp1)), fun a4 f4 => ?_⟩
    rw [cutD hml]
    have e4 := er_mono (st := st) (Same.new f4 (o := .lst ((bs.map V.ref).drop m)))
    have h3 := e4 _ _ h3
    have h4 := er_of (B3.sta.ne f4) (upd_same (H := J4) (a := a4) (o := .lst ((bs.map V.ref).drop m)))
    have E4 := E3.trans e4
    have B4 := B3.same (Same.new f4 (o := .lst ((bs.map V.ref).drop m)))
    generalize upd J4 a4 (.lst ((bs.map V.ref).drop m)) = J5 at h3 h4 E4 B4 ⊢
    clear e4 E3 B3 f4
    have l4 : ((bs.map V.ref).drop m).length ≤ 3 := by rw [List.length_drop, List.length_map]; omega
    refine ⟨a3, a4, _, _, rfl, rfl, (er_same _ _) _ _ h3, (er_same _ _) _ _ h4, Nat.le_trans (show _ ≤ 4 + 3 from Nat.add_le_add x3l l4) (by decide), fun a5 f5 => ?_⟩
    obtain ⟨x5, hx5⟩ : ∃ x5, x5 = x3 ++ (bs.map V.ref).drop m := ⟨_, rfl⟩
    rw [← hx5]
    have x5l : x5.length ≤ 7 := by rw [hx5, List.length_append]; omega
    have h5 := er_of (B4.sta.ne f5) (upd_same (H := J5) (a := a5) (o := .lst x5))
    have E5 := E4.trans (er_mono (st := st) (Same.new f5 (o := .lst x5)))
    have B5 := B4.same (Same.new f5 (o := .lst x5))
    generalize upd J5 a5 (.lst x5) = J6 at h5 E5 B5 ⊢
    clear h3 h4 E4 B4 f5
    refine ⟨_, rfl, _, rfl, 2, rfl, lo5, _, rfl, SqL.of ((er_same _ _) _ _ (E5 _ _ hlo)), fun a6 f6 => ?_⟩
    have l6 : (cutV od none (some 2)).length ≤ 15 := Nat.le_trans (cutV_length _ _ _) (by omega)
    generalize cutV od none (some 2) = x6 at l6 ⊢
    have e6 := er_mono (st := st) (Same.new f6 (o := .lst x6))
    have h5 := e6 _ _ h5
    have h6 := er_of (B5.sta.ne f6) (upd_same (H := J6) (a := a6) (o := .lst x6))
    have E6 := E5.trans e6
    have B6 := B5.same (Same.new f6 (o := .lst x6))
    generalize upd J6 a6 (.lst x6) = J7 at h5 h6 E6 B6 ⊢
    clear e6 E5 B5 f6
    refine ⟨st, c, a6, _, _, rfl, B6.sta, by omega, SqL.of h6, by omega, fun q zs J8 g8 hq zl _ => ?_⟩
    have h5 := g8.same _ _ h5
    have E8 := E6.trans g8.same
    have B8 := B6.gs g8
    clear h6 E6 B6 g8
    refine ⟨a5, q, _, _, rfl, rfl, (er_same _ _) _ _ h5, (er_same _ _) _ _ hq, Nat.le_trans (show _ ≤ 7 + 15 from Nat.add_le_add x5l (Nat.le_trans zl l6)) (by decide), fun bt f9 => ?_⟩
    obtain ⟨x9, hx9⟩ : ∃ x9, x9 = x5 ++ zs := ⟨_, rfl⟩
    rw [← hx9]
    have h9 := er_of (B8.sta.ne f9) (upd_same (H := J8) (a := bt) (o := .lst x9))
    have E9 := E8.trans (er_mono (st := st) (Same.new f9 (o := .lst x9)))
    have B9 := B8.same (Same.new f9 (o := .lst x9))
    generalize upd J8 bt (.lst x9) = J9 at h9 E9 B9 ⊢
    clear h5 hq E8 B8 f9
    have hp1 := E9 _ _ hp1
    have hp2' := paired_imp (fun b (p : Str × Str) z => stUp (xs := [.str p.1, .str p.2]) z E9) hp2'
    have HG := HG.upS E9
    have M9 := M17.up E9
    have okY : OrdOk y2 ps := fun q m => ⟨ypn.mem_iff.mpr (pok q m).1, ypn.mem_iff.mpr (pok q m).2.1, (pok q m).2.2⟩
    have bad : BadO K (er J9 st) y2 (.ref bt) m := by
      have tl : ((bs.map V.ref).take m).length = m := by rw [List.length_take]; omega
      refine .inr ⟨bt, _, rfl, .inl (SqL.of h9), fun j x lt hx => ?_, v, ?_, (odd v vm).up E9⟩
      · rw [hx9, hx5, hx3, List.append_assoc, List.append_assoc, List.getElem?_append_left (by omega), List.getElem?_take, if_pos lt, List.getElem?_map] at hx
        obtain ⟨b0, hb0, rfl⟩ := Option.map_eq_some_iff.mp hx
        obtain ⟨pr, hpr', hsq⟩ := paired_at hp2' hb0
        have mm := okY pr (List.mem_of_getElem? hpr')
        exact ⟨b0, pr, rfl, .inr hsq, mm.1, mm.2.1, mm.2.2⟩
      · rw [hx9, hx5, hx3, List.append_assoc, List.append_assoc, List.getElem?_append_right (by omega), tl, Nat.sub_self]
        rfl
    clear hx9 hx5 hx3 h9 E9 odd vm hlo hod15 E0' zl l6 l4 l1 x3l x5l M17 B17
    dsimp only [List.set]
    -- what is tried
    refine ⟨_, rfl, _, rfl, st, c, D, _, _, _, rfl, B9.sta, by rw [pr_cost]; omega, SqL.of hp1, pr_dp hp2', pr_tq ps, by rw [List.length_map]; omega, pr_dep ps, fun g1 d' L J10 g10 Z ez _ => ?_⟩
    have og := ord_loose (K := K) Z ez
    have B10 := B9.gs g10
    have HG := HG.upS g10.same
    have M10 := M9.up g10.same
    have bad := bad.up g10.same
    clear Z ez g10 B9 M9 hp1 hp2'
    refine ⟨by show 2 ≤ sizeLine; decide, fun t1 f1 => ?_⟩
    have s1 := Same.new f1 (o := .tup [g1, .non])
    have k1 := upd_same (H := J10) (a := t1) (o := .tup [g1, .non])
    refine cast_heap (b := upd J10 t1 (.tup [g1, .non])) rfl ?_
    generalize upd J10 t1 (.tup [g1, .non]) = N1 at s1 k1 ⊢
    refine ⟨_, rfl, _, rfl, by show 2 ≤ sizeLine; decide, fun u2 f2 => ?_⟩
    have s2 := Same.new f2 (o := .tup [.str "order", .int m])
    have k2 := upd_same (H := N1) (a := u2) (o := .tup [.str "order", .int m])
    refine cast_heap (b := upd N1 u2 (.tup [.str "order", .int m])) rfl ?_
    generalize upd N1 u2 (.tup [.str "order", .int m]) = N2 at s2 k2 ⊢
    refine ⟨by show 2 ≤ sizeLine; decide, fun t2 f3 => ?_⟩
    have s3 := Same.new f3 (o := .tup [.ref bt, .ref u2])
    have k3 := upd_same (H := N2) (a := t2) (o := .tup [.ref bt, .ref u2])
    refine cast_heap (b := upd N2 t2 (.tup [.ref bt, .ref u2])) rfl ?_
    generalize upd N2 t2 (.tup [.ref bt, .ref u2]) = N3 at s3 k3 ⊢
    refine ⟨by show 2 ≤ sizeLine; decide, fun u3 f4 => ?_⟩
    have s4 := Same.new f4 (o := .tup [.str "order", .int 0])
    have k4 := upd_same (H := N3) (a := u3) (o := .tup [.str "order", .int 0])
    refine cast_heap (b := upd N3 u3 (.tup [.str "order", .int 0])) rfl ?_
    generalize upd N3 u3 (.tup [.str "order", .int 0]) = N4 at s4 k4 ⊢
    refine ⟨by show 2 ≤ sizeLine; decide, fun t3 f5 => ?_⟩
    have s5 := Same.new f5 (o := .tup [.non, .ref u3])
    have k5 := upd_same (H := N4) (a := t3) (o := .tup [.non, .ref u3])
    refine cast_heap (b := upd N4 t3 (.tup [.non, .ref u3])) rfl ?_
    generalize upd N4 t3 (.tup [.non, .ref u3]) = N5 at s5 k5 ⊢
    refine ⟨by show 3 ≤ sizeLine; decide, fun l f6 => ?_⟩
    have s6 := Same.new f6 (o := .lst [.ref t1, .ref t2, .ref t3])
    have k6 := upd_same (H := N5) (a := l) (o := .lst [.ref t1, .ref t2, .ref t3])
    refine cast_heap (b := upd N5 l (.lst [.ref t1, .ref t2, .ref t3])) rfl ?_
    generalize upd N5 l (.lst [.ref t1, .ref t2, .ref t3]) = N6 at s6 k6 ⊢
    have S6 := ((((s1.trans s2).trans s3).trans s4).trans s5).trans s6
    have BN := (B10.same S6).le (b' := 2000 * (i : Int) + 2000) (by have := pr_cost ps; omega) (by omega)
    have E6 : Same (er J10 st) N6 := (er_same _ _).trans S6
    have F0 : F23 K A.a_Meal A.a_Hanging st c p hg l t1 t2 t3 u2 u3 (2000 * (i : Int) + 2000) y2 lo hi' hk ps g1 (.ref bt) m N6 :=
      ⟨BN.sta, M10.up E6, HG.upS E6, k6, ((((s2.trans s3).trans s4).trans s5).trans s6) _ _ k1, ((s4.trans s5).trans s6) _ _ k3, s6 _ _ k5, (((s3.trans s4).trans s5).trans s6) _ _ k2, (s5.trans s6) _ _ k4, og.up E6, bad.up E6⟩
    have hF := F23.mono (K := K) (CM := A.a_Meal) (CH := A.a_Hanging) (st := st) (c := c) (p := p) (hg := hg) (l := l) (t1 := t1) (t2 := t2) (t3 := t3) (u2 := u2) (u3 := u3) (b := 2000 * (i : Int) + 2000) (ys := y2) (lo := lo) (hi := hi') (hk := hk) (ps := ps) (g1 := g1) (bent := .ref bt) (k := m)
    have FN := F0.nt
    have tb := BN.tab
    have mhs : ∃ rk, ROk rk (rowsF y2 hk) := ⟨_, hOy⟩
    have y64 : y2.length < 64 := by rw [yp.length_eq]; omega
    have ysok : ∀ n ∈ y2, PyData.strOk n = true := fun n m => nok n (ypn.mem_iff.mp m)
    have cs : ∀ {E : Hp}, F23 K A.a_Meal A.a_Hanging st c p hg l t1 t2 t3 u2 u3 (2000 * (i : Int) + 2000) y2 lo hi' hk ps g1 (.ref bt) m E → ∀ {g : V} {d : PyData}, ((d = .none ∧ OrdV K E g ps) ∨ ∃ k : Nat, d = .tuple [.str "order", .int (k : Int)] ∧ BadO K E y2 g k) → Cs K A.a_Meal A.a_Hanging E p hg g y2 hk W lo hi' ps d :=
      fun F _ _ c => ⟨F.m, F.h, c, okY, mhs, hs2, hW, y64, ysok, by omega⟩
    obtain ⟨FF, eFF⟩ : ∃ FF, FF = F23 K A.a_Meal A.a_Hanging st c p hg l t1 t2 t3 u2 u3 (2000 * (i : Int) + 2000) y2 lo hi' hk ps g1 (.ref bt) m := ⟨_, rfl⟩
    rw [← eFF] at FN hF F0
    have hlF : ∀ {E : Hp}, FF E → E l = some (.lst [.ref t1, .ref t2, .ref t3]) := fun F => by rw [eFF] at F; exact F.hl
    have stF : ∀ {E : Hp}, FF E → Sta E st c (2000 * (i : Int) + 2000) := fun F => by rw [eFF] at F; exact F.sta
    have cas : ∀ {i' : Nat} {x : V}, [V.ref t1, .ref t2, .ref t3][i']? = some x → ∃ t g u d, x = .ref t ∧ (∀ E, FF E → E t = some (.tup [g, u])) ∧ (∀ E, FF E → VD E u d) ∧ ∀ E, FF E → Cs K A.a_Meal A.a_Hanging E p hg g y2 hk W lo hi' ps d := fun {i' x} h => by
      subst eFF
      rcases i' with _ | _ | _ | i'
      · cases h; exact ⟨t1, g1, .non, .none, rfl, fun E F => F.h1, fun E F => .inl ⟨rfl, rfl⟩, fun E F => cs F (.inl ⟨rfl, F.o⟩)⟩
      · cases h; exact ⟨t2, .ref bt, .ref u2, _, rfl, fun E F => F.h2, fun E F => .inr ⟨u2, m, rfl, F.d2, rfl⟩, fun E F => cs F (.inr ⟨m, rfl, F.bad⟩)⟩
      · cases h; exact ⟨t3, .non, .ref u3, _, rfl, fun E F => F.h3, fun E F => .inr ⟨u3, 0, rfl, F.d3, rfl⟩, fun E F => cs F (.inr ⟨0, rfl, .inl ⟨rfl, "NoneType", .base .non, by decide +kernel, by decide +kernel⟩⟩)⟩
      · simp at h
    clear cs eFF k1 k2 k3 k4 k5 k6 s1 s2 s3 s4 s5 s6 f1 f2 f3 f4 f5 f6 S6 E6 bad og M10 HG B10
    refine ⟨l, rfl, ⟨_, SqL.of (hlF F0)⟩, for_it (walk_list (K := K) (a := l)) (fun i' σ' H' => ∃ v10 v11 v12 v13, σ' = [some (.ref a), some (.ref st), some (.int (0 + (i : Int))), some (.ref pn), some (.ref p), some (.ref hg), some (.ref D), some (.ref lo5), some (.int m), some (.ref bt), v10, v11, v12, v13, v14] ∧ FF (nt H') ∧ LamX.Tabs (T1 P1) H')
      ⟨_, _, _, _, rfl, FN, tb⟩ (fun i' σ' H' _ ⟨_, _, _, _, _, F, _⟩ => SqL.of (hlF (hF _ _ nt_same F))) ?_ (fun σ' H3 q => ?_)⟩
    · rintro i' x σ' H' H'' hi' ⟨v10, v11, v12, v13, rfl, F, tb⟩ ⟨rfl, hx⟩
      obtain ⟨t, g, u, d, rfl, ht, hu, hC⟩ := cas hx
      refine ⟨t, _, rfl, SqT.of (ht _ (hF _ _ nt_same F)), rfl, _, _, rfl, _, _, rfl, rfl, ?_⟩
      clear cas hx
      dsimp only [List.set]
      -- the first call
      refine ⟨tb, fun C1 eN tb1 => ?_⟩
      have F1 := hF _ _ (nt_ext eN) F
      refine ⟨_, rfl, _, rfl, _, rfl, (hC _ (hF _ _ nt_same F1)).early fun v1 C2 z2 vd1 => ?_⟩
      have F2 := hF _ _ (nt_mono z2) F1
      have tb2 := tb1.ext z2
      refine ⟨by show 1 ≤ sizeLine; decide, fun M nM => ?_⟩
      have L : Tn (T1 P1) C2 FF M d [v1] (upd C2 M (.lst [v1])) := ⟨Lp.start hF nM F2 tb2 (Same.refl _), fun v mv => by
        rw [List.mem_singleton.mp mv]
        exact (vd1.up (Same.new nM)).ofM upd_same⟩
      refine cast_heap (b := upd C2 M (.lst [v1])) rfl ?_
      generalize upd C2 M (.lst [v1]) = C3 at L ⊢
      clear F1 tb1 F tb z2 vd1 nM
      dsimp only [List.set]
      refine ⟨_, rfl, .inl ⟨rfl, _, SqL.of L.l.at_⟩, L.l.tab, fun G1 eN tb1 => ?_⟩
      have L := L.ext hF eN tb1
      refine ⟨_, rfl, _, rfl, _, rfl, (hC _ (L.l.u hF)).late fun v2 G2 z2 vd => ?_⟩
      have L := L.same hF z2
      refine ⟨M, _, _, rfl, rfl, L.l.at_, Nat.lt_of_lt_of_le (show 1 < 16 by decide) (by decide), ?_⟩
      have L := L.app vd
      generalize upd G2 M _ = G3 at L ⊢
      clear eN tb1 z2 vd
      refine ⟨_, rfl, .inl ⟨rfl, _, SqL.of L.l.at_⟩, L.l.tab, fun G1 eN tb1 => ?_⟩
      have L := L.ext hF eN tb1
      refine ⟨_, rfl, _, rfl, _, rfl, (hC _ (L.l.u hF)).ring fun v3 G2 z2 vd => ?_⟩
      have L := L.same hF z2
      refine ⟨M, _, _, rfl, rfl, L.l.at_, Nat.lt_of_lt_of_le (show 2 < 16 by decide) (by decide), ?_⟩
      have L := L.app vd
      generalize upd G2 M _ = G3 at L ⊢
      clear eN tb1 z2 vd
      refine ⟨_, rfl, .inl ⟨rfl, _, SqL.of L.l.at_⟩, L.l.tab, fun G1 eN tb1 => ?_⟩
      have L := L.ext hF eN tb1
      refine ⟨_, rfl, _, rfl, _, rfl, (hC _ (L.l.u hF)).isring fun v4 G2 z2 vd => ?_⟩
      have L := L.same hF z2
      refine ⟨M, _, _, rfl, rfl, L.l.at_, Nat.lt_of_lt_of_le (show 3 < 16 by decide) (by decide), ?_⟩
      have L := L.app vd
      generalize upd G2 M _ = G3 at L ⊢
      clear eN tb1 z2 vd
      have mv := L.v
      have dd : DpAll K (nE G3 M) [v1, v2, v3, v4] [d, d, d, d] := .cons (mv v1 (by simp)).dp (.cons (mv v2 (by simp)).dp (.cons (mv v3 (by simp)).dp (.cons (mv v4 (by simp)).dp .nil)))
      have hd := (hu _ (L.l.u hF)).dep
      have hrd : (rowD d).depth < 3 ∧ wid (rowD d) = true := by
        rcases hu _ (L.l.u hF) with ⟨_, rfl⟩ | ⟨t0, k0, _, _, rfl⟩
        · exact ⟨by simp [rowD, PyData.depth, PyData.depthAll], rfl⟩
        · exact ⟨by simp [rowD, PyData.depth, PyData.depthAll], rfl⟩
      refine ⟨_, rfl, _, rfl, by show 1 ≤ sizeLine; decide, fun w1 f1 => ⟨w1, 4, [u], rfl, rfl, upd_same, by decide, by decide, by show 1 * 4 ≤ sizeLine; decide, fun w2 f2 => ?_⟩⟩
      have z1 := (Same.new f1 (o := .lst [u])).trans (Same.new f2 (o := .lst (List.replicate (4 : Int).toNat [u]).flatten))
      have hw2 := upd_same (H := upd G3 w1 (.lst [u])) (a := w2) (o := .lst (List.replicate (4 : Int).toNat [u]).flatten)
      refine cast_heap (b := upd (upd G3 w1 (.lst [u])) w2 (.lst (List.replicate (4 : Int).toNat [u]).flatten)) rfl ?_
      have L := L.same hF z1
      generalize upd (upd G3 w1 (.lst [u])) w2 (.lst (List.replicate (4 : Int).toNat [u]).flatten) = G4 at z1 hw2 L ⊢
      have du := (hu _ (L.l.u hF)).dp (K := K)
      have wdd : wid (.list [d, d, d, d]) = true := by simp [wid, widAll, hd.2]
      have dpd : (PyData.list [d, d, d, d]).depth < 3 := by
        have := hd.1
        simp only [PyData.depth, PyData.depthAll]
        omega
      refine ⟨.ref M, .ref w2, .list [d, d, d, d], rfl, .lst (SqL.of L.l.at_) (dpAllSame (nE_same.trans z1) dd), .lst (xs := [u, u, u, u]) (SqL.of hw2) (.cons du (.cons du (.cons du (.cons du .nil)))), dpd, wdd, fun G5 z5 => ⟨_, rfl, ite2 (fun c => absurd c (by simp)) (fun _ => ?_)⟩⟩
      have L := L.same hF z5
      clear z1 hw2 du dd mv f1 f2 z5 wdd dpd
      rcases hu _ (L.l.u hF) with ⟨eu, ed⟩ | ⟨t0, k0, eu, q0, ed⟩
      · subst eu
        subst ed
        refine ⟨_, rfl, rfl, _, rfl, ite2 (fun c => ?_) (fun c => by simp at c)⟩
        refine ⟨by show 2 ≤ sizeLine; decide, fun w3 f3 => ?_⟩
        have hw := nE_of (er_of (fun e => by rw [e, L.l.at_] at f3; cases f3) (upd_same (H := G5) (a := w3) (o := .tup [.str "row", .non]))) (fun _ z => nomatch z)
        have L := L.same hF (Same.new f3 (o := .tup [.str "row", .non]))
        refine cast_heap (b := upd G5 w3 (.tup [.str "row", .non])) rfl ?_
        generalize upd G5 w3 (.tup [.str "row", .non]) = G6 at hw L ⊢
        have hw : Dp K (nE G6 M) (.ref w3) (rowD .none) := .tup (SqT.of hw) (.cons (.str _) (.cons .non .nil))
        refine ⟨L.l.tab, fun C1 eN tb1 => ?_⟩
        have L := L.ext hF eN tb1
        have hw := dpSame (nE_ext eN) hw
        refine ⟨_, rfl, _, rfl, _, rfl, (hC _ (L.l.u hF)).rowof fun vr C4 z2 dr => ?_⟩
        have L := L.same hF z2
        have hw := dpSame (nE_mono z2) hw
        refine ⟨_, rfl, vr, _, _, rfl, dr, dpSame nE_same hw, hrd.1, hrd.2, fun H' s => ⟨_, rfl, ite2 (fun c => absurd c (by simp)) (fun _ => ?_)⟩⟩
        have L := L.same hF s
        exact ⟨_, _, _, _, rfl, hF _ _ (nt_mono (er_same _ _)) L.l.f, L.l.tab⟩
      · subst eu
        refine ⟨_, rfl, rfl, _, rfl, ite2 (fun c => absurd c (by simp)) (fun c => ?_)⟩
        refine ⟨_, rfl, ?_⟩
        have hw : Dp K (nE G5 M) (.ref t0) (rowD d) := by
          subst ed
          exact (VD.ofM (.inr ⟨t0, k0, rfl, q0, rfl⟩) L.l.at_).dp
        refine ⟨L.l.tab, fun C1 eN tb1 => ?_⟩
        have L := L.ext hF eN tb1
        have hw := dpSame (nE_ext eN) hw
        refine ⟨_, rfl, _, rfl, _, rfl, (hC _ (L.l.u hF)).rowof fun vr C4 z2 dr => ?_⟩
        have L := L.same hF z2
        have hw := dpSame (nE_mono z2) hw
        refine ⟨_, rfl, vr, _, _, rfl, dr, dpSame nE_same hw, hrd.1, hrd.2, fun H' s => ⟨_, rfl, ite2 (fun c => absurd c (by simp)) (fun _ => ?_)⟩⟩
        have L := L.same hF s
        exact ⟨_, _, _, _, rfl, hF _ _ (nt_mono (er_same _ _)) L.l.f, L.l.tab⟩
    · obtain ⟨v10, v11, v12, v13, rfl, F, tb⟩ := q
      exact ⟨_, _, _, _, _, _, _, _, _, _, _, _, _, rfl, (stF (hF _ _ nt_same F)).le (by omega) (by omega), tb⟩
end
end K5
set_option Elab.async false
set_option linter.all false
set_option maxRecDepth 100000
set_option maxHeartbeats 0
namespace K5
open PySem PySem.Spec PyProof.Rows L2

theorem sta_ok {K : PySem.W.Frag} {x m : Str} {d : He.DefD} (h : staB K x m d = true) : Own.StaM K (He.ga K x) m (stA K x m) ∧ okAd K (stA K x m) d = true := by
  obtain ⟨h1, h⟩ := He.ba h
  obtain ⟨h2, h⟩ := He.ba h
  obtain ⟨h3, h⟩ := He.ba h
  obtain ⟨h4, h5⟩ := He.ba h
  obtain ⟨w1, rest, w2⟩ := He5.wrapB_ok h4
  exact ⟨⟨of_decide_eq_true h1, h2, of_decide_eq_true h3, ⟨_, rest, w1, w2⟩, (He.ba h5).1⟩, h5⟩

theorem tabs0 {H : Hp} (hT : ∀ p ∈ ([(960, 958)] : List (Addr × Addr)), H p.2 = some (.tbl #[])) : LamX.Tabs (T1 958) H := fun p hp => by
  have z := inT1 hp
  rw [z]; exact LamX.TabS.nil (hT (960, 958) (by simp))
theorem funOf {K : PySem.W.Frag} {x qual : Str} {st : Stmt} {f : Addr} {fd : FuncData} (F : FunD K x qual (defArgs st) (defBody st) (defScope st) [] [] f fd) : Fun K x qual st f fd := by
  obtain ⟨oc, od, dV, kV, doc, pm, an, cdv, ct, osl, e, lk, hc, hd, _⟩ := F.ex
  have ed : dV = .none := hd.elim (fun z => z.2) (fun z => absurd rfl z.1)
  subst ed
  exact ⟨⟨oc, od, kV, doc, pm, an, cdv, ct, osl, e, lk, hc⟩, F.kp⟩
theorem factsX {P : Program} {w : World} {K : PySem.W.Frag} {h : Heap} {mg : Str → Option Value} {fz : Addr} (X : K.In h) (G : h.Ns mainGlobals mg) (hfa : mg ("law" : Str) = some (.ref fz)) (c : He.SaysD faL fnL K) (ex : exB K = true) (cs : (stL K).map (fnWa K) = stV) :
    ∃ fd : FuncData, (∀ (s : Shared) (v : Value), BindsTo s fd ⟨[v], []⟩ [("_law_script", v)]) ∧ ∀ base : Heap, K.In base → base.Ns mainGlobals mg → LamX.TabB base mg 960 958 → FnOk P w K mg base CX0 13 fz fd ["_law_script"] (spLawT K 958) := by
  obtain ⟨z_is_integer, F_is_integer⟩ := c.def_ 0 (d := dd_is_integer) (by rfl)
  obtain ⟨z_is_list, F_is_list⟩ := c.def_ 1 (d := dd_is_list) (by rfl)
  obtain ⟨z_is_name, F_is_name⟩ := c.def_ 2 (d := dd_is_name) (by rfl)
  obtain ⟨z_is_dish, F_is_dish⟩ := c.def_ 3 (d := dd_is_dish) (by rfl)
  obtain ⟨z_is_index, F_is_index⟩ := c.def_ 4 (d := dd_is_index) (by rfl)
  obtain ⟨z_alike, F_alike⟩ := c.def_ 5 (d := dd_alike) (by rfl)
  obtain ⟨z_copied, F_copied⟩ := c.def_ 6 (d := dd_copied) (by rfl)
  obtain ⟨z_BadOrder___init__, F_BadOrder___init__⟩ := c.def_ 7 (d := dd_BadOrder___init__) (by rfl)
  obtain ⟨z_NoRow___init__, F_NoRow___init__⟩ := c.def_ 8 (d := dd_NoRow___init__) (by rfl)
  obtain ⟨z_is_bounds, F_is_bounds⟩ := c.def_ 9 (d := dd_is_bounds) (by rfl)
  obtain ⟨z_is_moment, F_is_moment⟩ := c.def_ 10 (d := dd_is_moment) (by rfl)
  obtain ⟨z_is_wish, F_is_wish⟩ := c.def_ 11 (d := dd_is_wish) (by rfl)
  obtain ⟨z_is_station, F_is_station⟩ := c.def_ 12 (d := dd_is_station) (by rfl)
  obtain ⟨z_as_moment, F_as_moment⟩ := c.def_ 13 (d := dd_as_moment) (by rfl)
  obtain ⟨z_as_wish, F_as_wish⟩ := c.def_ 14 (d := dd_as_wish) (by rfl)
  obtain ⟨z_check_same, F_check_same⟩ := c.def_ 15 (d := dd_check_same) (by rfl)
  obtain ⟨z_check_orders, F_check_orders⟩ := c.def_ 16 (d := dd_check_orders) (by rfl)
  obtain ⟨z_is_order, F_is_order⟩ := c.def_ 17 (d := dd_is_order) (by rfl)
  obtain ⟨z_way_up, F_way_up⟩ := c.def_ 18 (d := dd_way_up) (by rfl)
  obtain ⟨z_way_of, F_way_of⟩ := c.def_ 19 (d := dd_way_of) (by rfl)
  obtain ⟨z_dish_of, F_dish_of⟩ := c.def_ 20 (d := dd_dish_of) (by rfl)
  obtain ⟨z_spread, F_spread⟩ := c.def_ 21 (d := dd_spread) (by rfl)
  obtain ⟨z_most_longer, F_most_longer⟩ := c.def_ 22 (d := dd_most_longer) (by rfl)
  obtain ⟨z_Hanging___init__, F_Hanging___init__⟩ := c.def_ 23 (d := dd_Hanging___init__) (by rfl)
  obtain ⟨z_Hanging_rows, F_Hanging_rows⟩ := c.def_ 24 (d := dd_Hanging_rows) (by rfl)
  obtain ⟨z_Hanging___iter__, F_Hanging___iter__⟩ := c.def_ 25 (d := dd_Hanging___iter__) (by rfl)
  obtain ⟨z_check_rows, F_check_rows⟩ := c.def_ 26 (d := dd_check_rows) (by rfl)
  obtain ⟨z_is_hook, F_is_hook⟩ := c.def_ 27 (d := dd_is_hook) (by rfl)
  obtain ⟨z_check_rounds, F_check_rounds⟩ := c.def_ 28 (d := dd_check_rounds) (by rfl)
  obtain ⟨z_round_from, F_round_from⟩ := c.def_ 29 (d := dd_round_from) (by rfl)
  obtain ⟨z_Book___init__, F_Book___init__⟩ := c.def_ 30 (d := dd_Book___init__) (by rfl)
  obtain ⟨z_check_entries, F_check_entries⟩ := c.def_ 31 (d := dd_check_entries) (by rfl)
  obtain ⟨z_is_entry, F_is_entry⟩ := c.def_ 32 (d := dd_is_entry) (by rfl)
  obtain ⟨z_is_wait, F_is_wait⟩ := c.def_ 33 (d := dd_is_wait) (by rfl)
  obtain ⟨z_check_waits, F_check_waits⟩ := c.def_ 34 (d := dd_check_waits) (by rfl)
  obtain ⟨z_sum_ahead, F_sum_ahead⟩ := c.def_ 35 (d := dd_sum_ahead) (by rfl)
  obtain ⟨z_raised, F_raised⟩ := c.def_ 36 (d := dd_raised) (by rfl)
  obtain ⟨z_ring_behind, F_ring_behind⟩ := c.def_ 37 (d := dd_ring_behind) (by rfl)
  obtain ⟨z_bounded, F_bounded⟩ := c.def_ 38 (d := dd_bounded) (by rfl)
  obtain ⟨z_wish_as_row, F_wish_as_row⟩ := c.def_ 39 (d := dd_wish_as_row) (by rfl)
  obtain ⟨z_order_as_wish, F_order_as_wish⟩ := c.def_ 40 (d := dd_order_as_wish) (by rfl)
  obtain ⟨z_found_row, F_found_row⟩ := c.def_ 41 (d := dd_found_row) (by rfl)
  obtain ⟨z_found_wish, F_found_wish⟩ := c.def_ 42 (d := dd_found_wish) (by rfl)
  obtain ⟨z_is_between, F_is_between⟩ := c.def_ 43 (d := dd_is_between) (by rfl)
  obtain ⟨z_goes_round, F_goes_round⟩ := c.def_ 44 (d := dd_goes_round) (by rfl)
  obtain ⟨z_all_rows, F_all_rows⟩ := c.def_ 45 (d := dd_all_rows) (by rfl)
  obtain ⟨z_earliest, F_earliest⟩ := c.def_ 46 (d := dd_earliest) (by rfl)
  obtain ⟨z_latest, F_latest⟩ := c.def_ 47 (d := dd_latest) (by rfl)
  obtain ⟨z_ring, F_ring⟩ := c.def_ 48 (d := dd_ring) (by rfl)
  obtain ⟨z_least_sums, F_least_sums⟩ := c.def_ 49 (d := dd_least_sums) (by rfl)
  obtain ⟨z_is_ring, F_is_ring⟩ := c.def_ 50 (d := dd_is_ring) (by rfl)
  obtain ⟨z_row_of, F_row_of⟩ := c.def_ 51 (d := dd_row_of) (by rfl)
  obtain ⟨z_Meal___init__, F_Meal___init__⟩ := c.def_ 52 (d := dd_Meal___init__) (by rfl)
  obtain ⟨z_Meal_dishes, F_Meal_dishes⟩ := c.def_ 53 (d := dd_Meal_dishes) (by rfl)
  obtain ⟨z_Meal_wishes, F_Meal_wishes⟩ := c.def_ 54 (d := dd_Meal_wishes) (by rfl)
  obtain ⟨z_Meal___len__, F_Meal___len__⟩ := c.def_ 55 (d := dd_Meal___len__) (by rfl)
  obtain ⟨z_Meal___iter__, F_Meal___iter__⟩ := c.def_ 56 (d := dd_Meal___iter__) (by rfl)
  obtain ⟨z_check_dishes, F_check_dishes⟩ := c.def_ 57 (d := dd_check_dishes) (by rfl)
  obtain ⟨z_check_wishes, F_check_wishes⟩ := c.def_ 58 (d := dd_check_wishes) (by rfl)
  obtain ⟨z_check_stations, F_check_stations⟩ := c.def_ 59 (d := dd_check_stations) (by rfl)
  obtain ⟨z__law_fresh, F__law_fresh⟩ := c.def_ 60 (d := dd__law_fresh) (by rfl)
  obtain ⟨z__law_take, F__law_take⟩ := c.def_ 61 (d := dd__law_take) (by rfl)
  obtain ⟨z__law_one, F__law_one⟩ := c.def_ 62 (d := dd__law_one) (by rfl)
  obtain ⟨z__law_mix, F__law_mix⟩ := c.def_ 63 (d := dd__law_mix) (by rfl)
  obtain ⟨z__law_some, F__law_some⟩ := c.def_ 64 (d := dd__law_some) (by rfl)
  obtain ⟨z__law_same, F__law_same⟩ := c.def_ 65 (d := dd__law_same) (by rfl)
  obtain ⟨z__law_loose, F__law_loose⟩ := c.def_ 66 (d := dd__law_loose) (by rfl)
  obtain ⟨z__law_names, F__law_names⟩ := c.def_ 67 (d := dd__law_names) (by rfl)
  obtain ⟨z__law_dishes, F__law_dishes⟩ := c.def_ 68 (d := dd__law_dishes) (by rfl)
  obtain ⟨z__law_hung, F__law_hung⟩ := c.def_ 69 (d := dd__law_hung) (by rfl)
  obtain ⟨z__law_tried, F__law_tried⟩ := c.def_ 70 (d := dd__law_tried) (by rfl)
  obtain ⟨z_law, F_law⟩ := c.def_ 71 (d := dd_law) (by rfl)
  obtain ⟨z_Book_of, F_Book_of⟩ := funDa (d := dd_Book_of) (a := (stA K "Book" "of")) (show fnWa K (stA K "Book" "of") = dd_Book_of.val from congrArg (fun l => nthW l 0) cs) (sta_ok (atB ex (i := 5) rfl)).2
  have gl : ∀ {x : Str} (i : Nat), faL[i]? = some (.glo x) → mg x = some (.ref (He.ga K x)) := fun i e => He.glo_ok X G (c.fact i e)
  have fr : ∀ {x : Str} (i : Nat), faL[i]? = some (.free x) → mg x = none := fun i e => He.free_ok X G (c.fact i e)
  have e := hfa.symm.trans (gl 60 (by rfl))
  cases e
  have T : Txt K mg ({ a_is_integer := (He.ga K "is_integer"), d_is_integer := z_is_integer, a_is_list := (He.ga K "is_list"), d_is_list := z_is_list, a_is_name := (He.ga K "is_name"), d_is_name := z_is_name, a_is_dish := (He.ga K "is_dish"), d_is_dish := z_is_dish, a_is_index := (He.ga K "is_index"), d_is_index := z_is_index, a_alike := (He.ga K "alike"), d_alike := z_alike, a_copied := (He.ga K "copied"), d_copied := z_copied, a_BadOrder___init__ := (He.ma K (He.ga K "BadOrder") "__init__"), d_BadOrder___init__ := z_BadOrder___init__, a_NoRow___init__ := (He.ma K (He.ga K "NoRow") "__init__"), d_NoRow___init__ := z_NoRow___init__, a_is_bounds := (He.ga K "is_bounds"), d_is_bounds := z_is_bounds, a_is_moment := (He.ga K "is_moment"), d_is_moment := z_is_moment, a_is_wish := (He.ga K "is_wish"), d_is_wish := z_is_wish, a_is_station := (He.ga K "is_station"), d_is_station := z_is_station, a_as_moment := (He.ga K "as_moment"), d_as_moment := z_as_moment, a_as_wish := (He.ga K "as_wish"), d_as_wish := z_as_wish, a_check_same := (He.ga K "check_same"), d_check_same := z_check_same, a_check_orders := (He.ga K "check_orders"), d_check_orders := z_check_orders, a_is_order := (He.ga K "is_order"), d_is_order := z_is_order, a_way_up := (He.ga K "way_up"), d_way_up := z_way_up, a_way_of := (He.ga K "way_of"), d_way_of := z_way_of, a_dish_of := (He.ga K "dish_of"), d_dish_of := z_dish_of, a_spread := (He.ga K "spread"), d_spread := z_spread, a_most_longer := (He.ga K "most_longer"), d_most_longer := z_most_longer, a_Hanging___init__ := (He.ma K (He.ga K "Hanging") "__init__"), d_Hanging___init__ := z_Hanging___init__, a_Hanging_rows := (He.ma K (He.ga K "Hanging") "rows"), d_Hanging_rows := z_Hanging_rows, a_Hanging___iter__ := (He.ma K (He.ga K "Hanging") "__iter__"), d_Hanging___iter__ := z_Hanging___iter__, a_check_rows := (He.ga K "check_rows"), d_check_rows := z_check_rows, a_is_hook := (He.ga K "is_hook"), d_is_hook := z_is_hook, a_check_rounds := (He.ga K "check_rounds"), d_check_rounds := z_check_rounds, a_round_from := (He.ga K "round_from"), d_round_from := z_round_from, a_Book___init__ := (He.ma K (He.ga K "Book") "__init__"), d_Book___init__ := z_Book___init__, a_Book_of := (stA K "Book" "of"), d_Book_of := z_Book_of, a_check_entries := (He.ga K "check_entries"), d_check_entries := z_check_entries, a_is_entry := (He.ga K "is_entry"), d_is_entry := z_is_entry, a_is_wait := (He.ga K "is_wait"), d_is_wait := z_is_wait, a_check_waits := (He.ga K "check_waits"), d_check_waits := z_check_waits, a_sum_ahead := (He.ga K "sum_ahead"), d_sum_ahead := z_sum_ahead, a_raised := (He.ga K "raised"), d_raised := z_raised, a_ring_behind := (He.ga K "ring_behind"), d_ring_behind := z_ring_behind, a_bounded := (He.ga K "bounded"), d_bounded := z_bounded, a_wish_as_row := (He.ga K "wish_as_row"), d_wish_as_row := z_wish_as_row, a_order_as_wish := (He.ga K "order_as_wish"), d_order_as_wish := z_order_as_wish, a_found_row := (He.ga K "found_row"), d_found_row := z_found_row, a_found_wish := (He.ga K "found_wish"), d_found_wish := z_found_wish, a_is_between := (He.ga K "is_between"), d_is_between := z_is_between, a_goes_round := (He.ga K "goes_round"), d_goes_round := z_goes_round, a_all_rows := (He.ga K "all_rows"), d_all_rows := z_all_rows, a_earliest := (He.ga K "earliest"), d_earliest := z_earliest, a_latest := (He.ga K "latest"), d_latest := z_latest, a_ring := (He.ga K "ring"), d_ring := z_ring, a_least_sums := (He.ga K "least_sums"), d_least_sums := z_least_sums, a_is_ring := (He.ga K "is_ring"), d_is_ring := z_is_ring, a_row_of := (He.ga K "row_of"), d_row_of := z_row_of, a_Meal___init__ := (He.ma K (He.ga K "Meal") "__init__"), d_Meal___init__ := z_Meal___init__, a_Meal_dishes := (He.ma K (He.ga K "Meal") "dishes"), d_Meal_dishes := z_Meal_dishes, a_Meal_wishes := (He.ma K (He.ga K "Meal") "wishes"), d_Meal_wishes := z_Meal_wishes, a_Meal___len__ := (He.ma K (He.ga K "Meal") "__len__"), d_Meal___len__ := z_Meal___len__, a_Meal___iter__ := (He.ma K (He.ga K "Meal") "__iter__"), d_Meal___iter__ := z_Meal___iter__, a_check_dishes := (He.ga K "check_dishes"), d_check_dishes := z_check_dishes, a_check_wishes := (He.ga K "check_wishes"), d_check_wishes := z_check_wishes, a_check_stations := (He.ga K "check_stations"), d_check_stations := z_check_stations, a__law_fresh := (He.ga K "_law_fresh"), d__law_fresh := z__law_fresh, a__law_take := (He.ga K "_law_take"), d__law_take := z__law_take, a__law_one := (He.ga K "_law_one"), d__law_one := z__law_one, a__law_mix := (He.ga K "_law_mix"), d__law_mix := z__law_mix, a__law_some := (He.ga K "_law_some"), d__law_some := z__law_some, a__law_same := (He.ga K "_law_same"), d__law_same := z__law_same, a__law_loose := (He.ga K "_law_loose"), d__law_loose := z__law_loose, a__law_names := (He.ga K "_law_names"), d__law_names := z__law_names, a__law_dishes := (He.ga K "_law_dishes"), d__law_dishes := z__law_dishes, a__law_hung := (He.ga K "_law_hung"), d__law_hung := z__law_hung, a__law_tried := (He.ga K "_law_tried"), d__law_tried := z__law_tried, a_law := (He.ga K "law"), d_law := z_law, a_BadOrder := He.ga K "BadOrder", a_NoRow := He.ga K "NoRow", a_Hanging := He.ga K "Hanging", a_Book := He.ga K "Book", a_Meal := He.ga K "Meal", a_EDGES := (He.ga K "EDGES"), a_W0 := (He.dflAt ("Meal", some "__init__") 0 K), a_S0 := (He.dflAt ("Meal", some "__init__") 1 K), a_R2 := (He.dflAt ("latest", none) 0 K), a_R0 := (He.dflAt ("ring", none) 0 K), a_R1 := (He.dflAt ("earliest", none) 0 K) } : Ad) := {
    f_is_integer := funOf (st := s_is_integer) F_is_integer
    g_is_integer := gl 0 (by rfl)
    b_is_integer := (funOf (st := s_is_integer) F_is_integer).binds fun _ _ _ _ _ _ us hl => match us, hl with | [_], _ => rfl
    f_is_list := funOf (st := s_is_list) F_is_list
    g_is_list := gl 1 (by rfl)
    b_is_list := (funOf (st := s_is_list) F_is_list).binds fun _ _ _ _ _ _ us hl => match us, hl with | [_], _ => rfl
    f_is_name := funOf (st := s_is_name) F_is_name
    g_is_name := gl 2 (by rfl)
    b_is_name := (funOf (st := s_is_name) F_is_name).binds fun _ _ _ _ _ _ us hl => match us, hl with | [_], _ => rfl
    f_is_dish := funOf (st := s_is_dish) F_is_dish
    g_is_dish := gl 3 (by rfl)
    b_is_dish := (funOf (st := s_is_dish) F_is_dish).binds fun _ _ _ _ _ _ us hl => match us, hl with | [_, _], _ => rfl
    f_is_index := funOf (st := s_is_index) F_is_index
    g_is_index := gl 4 (by rfl)
    b_is_index := (funOf (st := s_is_index) F_is_index).binds fun _ _ _ _ _ _ us hl => match us, hl with | [_, _], _ => rfl
    f_alike := funOf (st := s_alike) F_alike
    g_alike := gl 5 (by rfl)
    b_alike := (funOf (st := s_alike) F_alike).binds fun _ _ _ _ _ _ us hl => match us, hl with | [_, _], _ => rfl
    f_copied := funOf (st := s_copied) F_copied
    g_copied := gl 6 (by rfl)
    b_copied := (funOf (st := s_copied) F_copied).binds fun _ _ _ _ _ _ us hl => match us, hl with | [_], _ => rfl
    f_BadOrder___init__ := funOf (st := s_BadOrder___init__) F_BadOrder___init__
    b_BadOrder___init__ := (funOf (st := s_BadOrder___init__) F_BadOrder___init__).binds fun _ _ _ _ _ _ us hl => match us, hl with | [_, _], _ => rfl
    f_NoRow___init__ := funOf (st := s_NoRow___init__) F_NoRow___init__
    b_NoRow___init__ := (funOf (st := s_NoRow___init__) F_NoRow___init__).binds fun _ _ _ _ _ _ us hl => match us, hl with | [_, _], _ => rfl
    f_is_bounds := funOf (st := s_is_bounds) F_is_bounds
    g_is_bounds := gl 7 (by rfl)
    b_is_bounds := (funOf (st := s_is_bounds) F_is_bounds).binds fun _ _ _ _ _ _ us hl => match us, hl with | [_], _ => rfl
    f_is_moment := funOf (st := s_is_moment) F_is_moment
    g_is_moment := gl 8 (by rfl)
    b_is_moment := (funOf (st := s_is_moment) F_is_moment).binds fun _ _ _ _ _ _ us hl => match us, hl with | [_, _], _ => rfl
    f_is_wish := funOf (st := s_is_wish) F_is_wish
    g_is_wish := gl 9 (by rfl)
    b_is_wish := (funOf (st := s_is_wish) F_is_wish).binds fun _ _ _ _ _ _ us hl => match us, hl with | [_, _], _ => rfl
    f_is_station := funOf (st := s_is_station) F_is_station
    g_is_station := gl 10 (by rfl)
    b_is_station := (funOf (st := s_is_station) F_is_station).binds fun _ _ _ _ _ _ us hl => match us, hl with | [_, _], _ => rfl
    f_as_moment := funOf (st := s_as_moment) F_as_moment
    g_as_moment := gl 11 (by rfl)
    b_as_moment := (funOf (st := s_as_moment) F_as_moment).binds fun _ _ _ _ _ _ us hl => match us, hl with | [_], _ => rfl
    f_as_wish := funOf (st := s_as_wish) F_as_wish
    g_as_wish := gl 12 (by rfl)
    b_as_wish := (funOf (st := s_as_wish) F_as_wish).binds fun _ _ _ _ _ _ us hl => match us, hl with | [_], _ => rfl
    f_check_same := funOf (st := s_check_same) F_check_same
    g_check_same := gl 13 (by rfl)
    b_check_same := (funOf (st := s_check_same) F_check_same).binds fun _ _ _ _ _ _ us hl => match us, hl with | [_, _], _ => rfl
    f_check_orders := funOf (st := s_check_orders) F_check_orders
    g_check_orders := gl 14 (by rfl)
    b_check_orders := (funOf (st := s_check_orders) F_check_orders).binds fun _ _ _ _ _ _ us hl => match us, hl with | [_, _], _ => rfl
    f_is_order := funOf (st := s_is_order) F_is_order
    g_is_order := gl 15 (by rfl)
    b_is_order := (funOf (st := s_is_order) F_is_order).binds fun _ _ _ _ _ _ us hl => match us, hl with | [_, _], _ => rfl
    f_way_up := funOf (st := s_way_up) F_way_up
    g_way_up := gl 16 (by rfl)
    b_way_up := (funOf (st := s_way_up) F_way_up).binds fun _ _ _ _ _ _ us hl => match us, hl with | [_, _], _ => rfl
    f_way_of := funOf (st := s_way_of) F_way_of
    g_way_of := gl 17 (by rfl)
    b_way_of := (funOf (st := s_way_of) F_way_of).binds fun _ _ _ _ _ _ us hl => match us, hl with | [_, _], _ => rfl
    f_dish_of := funOf (st := s_dish_of) F_dish_of
    g_dish_of := gl 18 (by rfl)
    b_dish_of := (funOf (st := s_dish_of) F_dish_of).binds fun _ _ _ _ _ _ us hl => match us, hl with | [_], _ => rfl
    f_spread := funOf (st := s_spread) F_spread
    g_spread := gl 19 (by rfl)
    b_spread := (funOf (st := s_spread) F_spread).binds fun _ _ _ _ _ _ us hl => match us, hl with | [_, _, _, _], _ => rfl
    f_most_longer := funOf (st := s_most_longer) F_most_longer
    g_most_longer := gl 20 (by rfl)
    b_most_longer := (funOf (st := s_most_longer) F_most_longer).binds fun _ _ _ _ _ _ us hl => match us, hl with | [_, _, _], _ => rfl
    f_Hanging___init__ := funOf (st := s_Hanging___init__) F_Hanging___init__
    b_Hanging___init__ := (funOf (st := s_Hanging___init__) F_Hanging___init__).binds fun _ _ _ _ _ _ us hl => match us, hl with | [_, _], _ => rfl
    f_Hanging_rows := funOf (st := s_Hanging_rows) F_Hanging_rows
    b_Hanging_rows := (funOf (st := s_Hanging_rows) F_Hanging_rows).binds fun _ _ _ _ _ _ us hl => match us, hl with | [_], _ => rfl
    f_Hanging___iter__ := funOf (st := s_Hanging___iter__) F_Hanging___iter__
    b_Hanging___iter__ := (funOf (st := s_Hanging___iter__) F_Hanging___iter__).binds fun _ _ _ _ _ _ us hl => match us, hl with | [_], _ => rfl
    f_check_rows := funOf (st := s_check_rows) F_check_rows
    g_check_rows := gl 21 (by rfl)
    b_check_rows := (funOf (st := s_check_rows) F_check_rows).binds fun _ _ _ _ _ _ us hl => match us, hl with | [_], _ => rfl
    f_is_hook := funOf (st := s_is_hook) F_is_hook
    g_is_hook := gl 22 (by rfl)
    b_is_hook := (funOf (st := s_is_hook) F_is_hook).binds fun _ _ _ _ _ _ us hl => match us, hl with | [_, _], _ => rfl
    f_check_rounds := funOf (st := s_check_rounds) F_check_rounds
    g_check_rounds := gl 23 (by rfl)
    b_check_rounds := (funOf (st := s_check_rounds) F_check_rounds).binds fun _ _ _ _ _ _ us hl => match us, hl with | [_], _ => rfl
    f_round_from := funOf (st := s_round_from) F_round_from
    g_round_from := gl 24 (by rfl)
    b_round_from := (funOf (st := s_round_from) F_round_from).binds fun _ _ _ _ _ _ us hl => match us, hl with | [_, _], _ => rfl
    f_Book___init__ := funOf (st := s_Book___init__) F_Book___init__
    b_Book___init__ := (funOf (st := s_Book___init__) F_Book___init__).binds fun _ _ _ _ _ _ us hl => match us, hl with | [_, _], _ => rfl
    f_Book_of := funOf (st := s_Book_of) F_Book_of
    b_Book_of := (funOf (st := s_Book_of) F_Book_of).binds fun _ _ _ _ _ _ us hl => match us, hl with | [_, _], _ => rfl
    f_check_entries := funOf (st := s_check_entries) F_check_entries
    g_check_entries := gl 25 (by rfl)
    b_check_entries := (funOf (st := s_check_entries) F_check_entries).binds fun _ _ _ _ _ _ us hl => match us, hl with | [_], _ => rfl
    f_is_entry := funOf (st := s_is_entry) F_is_entry
    g_is_entry := gl 26 (by rfl)
    b_is_entry := (funOf (st := s_is_entry) F_is_entry).binds fun _ _ _ _ _ _ us hl => match us, hl with | [_, _], _ => rfl
    f_is_wait := funOf (st := s_is_wait) F_is_wait
    g_is_wait := gl 27 (by rfl)
    b_is_wait := (funOf (st := s_is_wait) F_is_wait).binds fun _ _ _ _ _ _ us hl => match us, hl with | [_], _ => rfl
    f_check_waits := funOf (st := s_check_waits) F_check_waits
    g_check_waits := gl 28 (by rfl)
    b_check_waits := (funOf (st := s_check_waits) F_check_waits).binds fun _ _ _ _ _ _ us hl => match us, hl with | [_], _ => rfl
    f_sum_ahead := funOf (st := s_sum_ahead) F_sum_ahead
    g_sum_ahead := gl 29 (by rfl)
    b_sum_ahead := (funOf (st := s_sum_ahead) F_sum_ahead).binds fun _ _ _ _ _ _ us hl => match us, hl with | [_, _], _ => rfl
    f_raised := funOf (st := s_raised) F_raised
    g_raised := gl 30 (by rfl)
    b_raised := (funOf (st := s_raised) F_raised).binds fun _ _ _ _ _ _ us hl => match us, hl with | [_, _], _ => rfl
    f_ring_behind := funOf (st := s_ring_behind) F_ring_behind
    g_ring_behind := gl 31 (by rfl)
    b_ring_behind := (funOf (st := s_ring_behind) F_ring_behind).binds fun _ _ _ _ _ _ us hl => match us, hl with | [_, _], _ => rfl
    f_bounded := funOf (st := s_bounded) F_bounded
    g_bounded := gl 32 (by rfl)
    b_bounded := (funOf (st := s_bounded) F_bounded).binds fun _ _ _ _ _ _ us hl => match us, hl with | [_, _, _], _ => rfl
    f_wish_as_row := funOf (st := s_wish_as_row) F_wish_as_row
    g_wish_as_row := gl 33 (by rfl)
    b_wish_as_row := (funOf (st := s_wish_as_row) F_wish_as_row).binds fun _ _ _ _ _ _ us hl => match us, hl with | [_, _, _], _ => rfl
    f_order_as_wish := funOf (st := s_order_as_wish) F_order_as_wish
    g_order_as_wish := gl 34 (by rfl)
    b_order_as_wish := (funOf (st := s_order_as_wish) F_order_as_wish).binds fun _ _ _ _ _ _ us hl => match us, hl with | [_], _ => rfl
    f_found_row := funOf (st := s_found_row) F_found_row
    g_found_row := gl 35 (by rfl)
    b_found_row := (funOf (st := s_found_row) F_found_row).binds fun _ _ _ _ _ _ us hl => match us, hl with | [_, _, _, _], _ => rfl
    f_found_wish := funOf (st := s_found_wish) F_found_wish
    g_found_wish := gl 36 (by rfl)
    b_found_wish := (funOf (st := s_found_wish) F_found_wish).binds fun _ _ _ _ _ _ us hl => match us, hl with | [_, _, _, _], _ => rfl
    f_is_between := funOf (st := s_is_between) F_is_between
    g_is_between := gl 37 (by rfl)
    b_is_between := (funOf (st := s_is_between) F_is_between).binds fun _ _ _ _ _ _ us hl => match us, hl with | [_, _], _ => rfl
    f_goes_round := funOf (st := s_goes_round) F_goes_round
    g_goes_round := gl 38 (by rfl)
    b_goes_round := (funOf (st := s_goes_round) F_goes_round).binds fun _ _ _ _ _ _ us hl => match us, hl with | [_, _, _, _], _ => rfl
    f_all_rows := funOf (st := s_all_rows) F_all_rows
    g_all_rows := gl 39 (by rfl)
    b_all_rows := (funOf (st := s_all_rows) F_all_rows).binds fun _ _ _ _ _ _ us hl => match us, hl with | [_, _, _], _ => rfl
    f_earliest := F_earliest
    g_earliest := gl 40 (by rfl)
    f_latest := F_latest
    g_latest := gl 41 (by rfl)
    f_ring := F_ring
    g_ring := gl 42 (by rfl)
    f_least_sums := funOf (st := s_least_sums) F_least_sums
    g_least_sums := gl 43 (by rfl)
    b_least_sums := (funOf (st := s_least_sums) F_least_sums).binds fun _ _ _ _ _ _ us hl => match us, hl with | [_, _, _], _ => rfl
    f_is_ring := funOf (st := s_is_ring) F_is_ring
    g_is_ring := gl 44 (by rfl)
    b_is_ring := (funOf (st := s_is_ring) F_is_ring).binds fun _ _ _ _ _ _ us hl => match us, hl with | [_, _, _, _], _ => rfl
    f_row_of := funOf (st := s_row_of) F_row_of
    g_row_of := gl 45 (by rfl)
    b_row_of := (funOf (st := s_row_of) F_row_of).binds fun _ _ _ _ _ _ us hl => match us, hl with | [_, _, _, _], _ => rfl
    f_Meal___init__ := F_Meal___init__
    f_Meal_dishes := funOf (st := s_Meal_dishes) F_Meal_dishes
    b_Meal_dishes := (funOf (st := s_Meal_dishes) F_Meal_dishes).binds fun _ _ _ _ _ _ us hl => match us, hl with | [_], _ => rfl
    f_Meal_wishes := funOf (st := s_Meal_wishes) F_Meal_wishes
    b_Meal_wishes := (funOf (st := s_Meal_wishes) F_Meal_wishes).binds fun _ _ _ _ _ _ us hl => match us, hl with | [_], _ => rfl
    f_Meal___len__ := funOf (st := s_Meal___len__) F_Meal___len__
    b_Meal___len__ := (funOf (st := s_Meal___len__) F_Meal___len__).binds fun _ _ _ _ _ _ us hl => match us, hl with | [_], _ => rfl
    f_Meal___iter__ := funOf (st := s_Meal___iter__) F_Meal___iter__
    b_Meal___iter__ := (funOf (st := s_Meal___iter__) F_Meal___iter__).binds fun _ _ _ _ _ _ us hl => match us, hl with | [_], _ => rfl
    f_check_dishes := funOf (st := s_check_dishes) F_check_dishes
    g_check_dishes := gl 46 (by rfl)
    b_check_dishes := (funOf (st := s_check_dishes) F_check_dishes).binds fun _ _ _ _ _ _ us hl => match us, hl with | [_], _ => rfl
    f_check_wishes := funOf (st := s_check_wishes) F_check_wishes
    g_check_wishes := gl 47 (by rfl)
    b_check_wishes := (funOf (st := s_check_wishes) F_check_wishes).binds fun _ _ _ _ _ _ us hl => match us, hl with | [_, _], _ => rfl
    f_check_stations := funOf (st := s_check_stations) F_check_stations
    g_check_stations := gl 48 (by rfl)
    b_check_stations := (funOf (st := s_check_stations) F_check_stations).binds fun _ _ _ _ _ _ us hl => match us, hl with | [_, _], _ => rfl
    f__law_fresh := funOf (st := s__law_fresh) F__law_fresh
    g__law_fresh := gl 49 (by rfl)
    b__law_fresh := (funOf (st := s__law_fresh) F__law_fresh).binds fun _ _ _ _ _ _ us hl => match us, hl with | [_], _ => rfl
    f__law_take := funOf (st := s__law_take) F__law_take
    g__law_take := gl 50 (by rfl)
    b__law_take := (funOf (st := s__law_take) F__law_take).binds fun _ _ _ _ _ _ us hl => match us, hl with | [_, _], _ => rfl
    f__law_one := funOf (st := s__law_one) F__law_one
    g__law_one := gl 51 (by rfl)
    b__law_one := (funOf (st := s__law_one) F__law_one).binds fun _ _ _ _ _ _ us hl => match us, hl with | [_, _], _ => rfl
    f__law_mix := funOf (st := s__law_mix) F__law_mix
    g__law_mix := gl 52 (by rfl)
    b__law_mix := (funOf (st := s__law_mix) F__law_mix).binds fun _ _ _ _ _ _ us hl => match us, hl with | [_, _], _ => rfl
    f__law_some := funOf (st := s__law_some) F__law_some
    g__law_some := gl 53 (by rfl)
    b__law_some := (funOf (st := s__law_some) F__law_some).binds fun _ _ _ _ _ _ us hl => match us, hl with | [_, _], _ => rfl
    f__law_same := funOf (st := s__law_same) F__law_same
    g__law_same := gl 54 (by rfl)
    b__law_same := (funOf (st := s__law_same) F__law_same).binds fun _ _ _ _ _ _ us hl => match us, hl with | [_, _], _ => rfl
    f__law_loose := funOf (st := s__law_loose) F__law_loose
    g__law_loose := gl 55 (by rfl)
    b__law_loose := (funOf (st := s__law_loose) F__law_loose).binds fun _ _ _ _ _ _ us hl => match us, hl with | [_, _], _ => rfl
    f__law_names := funOf (st := s__law_names) F__law_names
    g__law_names := gl 56 (by rfl)
    b__law_names := (funOf (st := s__law_names) F__law_names).binds fun _ _ _ _ _ _ us hl => match us, hl with | [_, _], _ => rfl
    f__law_dishes := funOf (st := s__law_dishes) F__law_dishes
    g__law_dishes := gl 57 (by rfl)
    b__law_dishes := (funOf (st := s__law_dishes) F__law_dishes).binds fun _ _ _ _ _ _ us hl => match us, hl with | [_, _, _], _ => rfl
    f__law_hung := funOf (st := s__law_hung) F__law_hung
    g__law_hung := gl 58 (by rfl)
    b__law_hung := (funOf (st := s__law_hung) F__law_hung).binds fun _ _ _ _ _ _ us hl => match us, hl with | [_, _], _ => rfl
    f__law_tried := funOf (st := s__law_tried) F__law_tried
    g__law_tried := gl 59 (by rfl)
    b__law_tried := (funOf (st := s__law_tried) F__law_tried).binds fun _ _ _ _ _ _ us hl => match us, hl with | [_], _ => rfl
    f_law := funOf (st := s_law) F_law
    g_law := gl 60 (by rfl)
    b_law := (funOf (st := s_law) F_law).binds fun _ _ _ _ _ _ us hl => match us, hl with | [_], _ => rfl
    g_CLOCK := He.str_ok X G (c.fact 66 (by rfl))
    g_LETTERS := He.str_ok X G (c.fact 67 (by rfl))
    g_LONGEST_NAME := He.int_ok X G (c.fact 68 (by rfl))
    len := fr 69 (by rfl)
    abs := fr 70 (by rfl)
    int := fr 71 (by rfl)
    list := fr 72 (by rfl)
    tuple := fr 73 (by rfl)
    bool := fr 74 (by rfl)
    str := fr 75 (by rfl)
    dict := fr 76 (by rfl)
    isinstance := fr 77 (by rfl)
    all := fr 78 (by rfl)
    any := fr 79 (by rfl)
    zip := fr 80 (by rfl)
    enumerate := fr 81 (by rfl)
    range := fr 82 (by rfl)
    sorted := fr 83 (by rfl)
    sum := fr 84 (by rfl)
    set := fr 85 (by rfl)
    iter := fr 86 (by rfl)
    bD_latest := F_latest.binds1 2 0 (show ¬ He.DefD.dvs K dd_latest = [] from List.cons_ne_nil _ _) rfl fun _ _ _ _ _ _ _ us its hu hi => match us, its, hu, hi with | [_, _], [_], _, _ => ⟨_, rfl, by kernel_rfl⟩
    bM1 := F_Meal___init__.binds1 2 0 (show ¬ He.DefD.dvs K dd_Meal___init__ = [] from List.cons_ne_nil _ _) rfl fun _ _ _ _ _ _ _ us its hu hi => match us, its, hu, hi with | [_, _], [_, _], _, _ => ⟨_, rfl, by kernel_rfl⟩
    b_earliest := by
      obtain ⟨ds, hv, hb⟩ := F_earliest.binds1 (ps := P_earliest) 3 1 (show ¬ He.DefD.dvs K dd_earliest = [] from List.cons_ne_nil _ _) rfl fun _ _ _ _ _ _ _ us its hu hi => match us, its, hu, hi with | [_, _, _], [_], _, _ => ⟨_, rfl, by kernel_rfl⟩
      cases hv
      exact hb
    b_latest := by
      obtain ⟨ds, hv, hb⟩ := F_latest.binds1 (ps := P_latest) 3 1 (show ¬ He.DefD.dvs K dd_latest = [] from List.cons_ne_nil _ _) rfl fun _ _ _ _ _ _ _ us its hu hi => match us, its, hu, hi with | [_, _, _], [_], _, _ => ⟨_, rfl, by kernel_rfl⟩
      cases hv
      exact hb
    b_ring := by
      obtain ⟨ds, hv, hb⟩ := F_ring.binds1 (ps := P_ring) 3 1 (show ¬ He.DefD.dvs K dd_ring = [] from List.cons_ne_nil _ _) rfl fun _ _ _ _ _ _ _ us its hu hi => match us, its, hu, hi with | [_, _, _], [_], _, _ => ⟨_, rfl, by kernel_rfl⟩
      cases hv
      exact hb
    cl := He.cls_ok (c.fact (f := .cls "Hanging") 87 (by rfl))
    cl_B := He.cls_ok (c.fact (f := .cls "Book") 88 (by rfl))
    cl_M := He.cls_ok (c.fact (f := .cls "Meal") 89 (by rfl))
    e0 := tupA_ok (atB ex (i := 0) rfl) _
    e0W := tupA_ok (atB ex (i := 1) rfl) _
    eBo := of_decide_eq_true (atB ex (i := 2) rfl)
    eNB := of_decide_eq_true (atB ex (i := 3) rfl)
    eNr := of_decide_eq_true (atB ex (i := 4) rfl)
    g_BadOrder := He.glo_ok X G (c.fact (f := .glo "BadOrder") 61 (by rfl))
    g_Book := He.glo_ok X G (c.fact (f := .glo "Book") 64 (by rfl))
    g_EDGES := He.glo_ok X G (c.fact (f := .glo "EDGES") 90 (by rfl))
    g_Hanging := He.glo_ok X G (c.fact (f := .glo "Hanging") 63 (by rfl))
    g_Meal := He.glo_ok X G (c.fact (f := .glo "Meal") 65 (by rfl))
    g_NoRow := He.glo_ok X G (c.fact (f := .glo "NoRow") 62 (by rfl))
    iBo := (mi_of (c.fact (f := .meth "BadOrder" "__init__") 91 (by rfl))).1
    iNr := (mi_of (c.fact (f := .meth "NoRow" "__init__") 92 (by rfl))).1
    m_dishes := He.meth_ok (c.fact (f := .meth "Meal" "dishes") 93 (by rfl))
    m_iterH := mi_of (c.fact (f := .meth "Hanging" "__iter__") 94 (by rfl))
    m_iterM := mi_of (c.fact (f := .meth "Meal" "__iter__") 95 (by rfl))
    m_lenM := mi_of (c.fact (f := .meth "Meal" "__len__") 96 (by rfl))
    m_rows := He.meth_ok (c.fact (f := .meth "Hanging" "rows") 97 (by rfl))
    m_wishes := He.meth_ok (c.fact (f := .meth "Meal" "wishes") 98 (by rfl))
    mkB := He.mkr_ok (c.fact (f := .mkr "Book") 99 (by rfl))
    mkH := He.mkr_ok (c.fact (f := .mkr "Hanging") 100 (by rfl))
    mkM := He.mkr_ok (c.fact (f := .mkr "Meal") 101 (by rfl))
    nB := He.noat_ok (c.fact (f := .noat "Meal" "bounds") 102 (by rfl))
    nBH := He.noat_ok (c.fact (f := .noat "Book" "hooks") 103 (by rfl))
    nBW := He.noat_ok (c.fact (f := .noat "Book" "waits") 104 (by rfl))
    nBo := He.noat_ok (c.fact (f := .noat "BadOrder" "index") 105 (by rfl))
    nH := He.noat_ok (c.fact (f := .noat "Hanging" "hooks") 106 (by rfl))
    nHintH := He.noat_ok (c.fact (f := .noat "Hanging" "__length_hint__") 107 (by rfl))
    nLenH := He.noat_ok (c.fact (f := .noat "Hanging" "__len__") 108 (by rfl))
    nNr := He.noat_ok (c.fact (f := .noat "NoRow" "row") 109 (by rfl))
    nP := He.noat_ok (c.fact (f := .noat "Meal" "places") 110 (by rfl))
    nW := He.noat_ok (c.fact (f := .noat "Meal" "wished") 111 (by rfl))
    stO := (sta_ok (atB ex (i := 5) rfl)).1
    tBo := of_decide_eq_true (atB ex (i := 6) rfl)
    tNr := of_decide_eq_true (atB ex (i := 7) rfl)
    t_EDGES := He.tupB_ok (atB ex (i := 8) rfl) _
    xBo := oex_of X (atB ex (i := 9) rfl) (atB ex (i := 10) rfl) (of_decide_eq_true (atB ex (i := 11) rfl)) (of_decide_eq_true (atB ex (i := 12) rfl)) (of_decide_eq_true (atB ex (i := 13) rfl)) (atB ex (i := 14) rfl)
    xNr := oex_of X (atB ex (i := 15) rfl) (atB ex (i := 16) rfl) (of_decide_eq_true (atB ex (i := 17) rfl)) (of_decide_eq_true (atB ex (i := 18) rfl)) (of_decide_eq_true (atB ex (i := 19) rfl)) (atB ex (i := 20) rfl)
    xfBo := L2.xfB_ok (atB ex (i := 21) rfl) }
  obtain ⟨oc_law, od_law, dV_law, kV_law, doc_law, pm_law, an_law, cd_law, ct_law, osl_law, e_law, lk_law, hc_law, hd_law, _⟩ := F_law.ex
  have ed_law : dV_law = .none := hd_law.elim (fun z => z.2) (fun z => absurd rfl z.1)
  subst ed_law
  obtain ⟨c_law, ec_law⟩ := He.codeIn_ref hc_law
  subst ec_law
  rw [e_law] at lk_law
  have q_law : c_law = 960 := (He.codeOf_eq (K := K) (p := ("law", none)) lk_law rfl).symm.trans (of_decide_eq_true (atB ex (i := 22) rfl))
  subst q_law
  refine ⟨z_law, fun s v => ?_, fun base _ _ TB0 => by rw [e_law]; exact ok_lawT T lk_law hc_law  TB0⟩
  rw [e_law]
  exact .of_eq rfl
end K5
open PySem PySem.W PySem.Calls PyProof.Rows in
set_option maxHeartbeats 0 in
theorem PySem.Challenge.cw_cookcalls_k23_orders_refused_holds : PySem.Challenge.rw_cookcalls_k23_orders_refused.Holds := by
  w_on; o_law
  refine HandSHeadRun.head_any (r := OpenLaw.row PySem.Challenge.rw_cookcalls_k23_orders_refused) (q := view (OpenLaw.row PySem.Challenge.rw_cookcalls_k23_orders_refused).prog [98]) (H := K5.hkX) (ob := K5.obX) (M := 20000) (loose := K5.nmL) (d := HandSHeadRun.topDef (OpenLaw.row PySem.Challenge.rw_cookcalls_k23_orders_refused).prog 98) (kwd := []) K5.obX_eq
    (by kernel_rfl) (fun s => by kernel_rfl) K5.runX (by kernel_rfl) (by kernel_rfl) (by kernel_rfl) (by rfl) (by first | assumption | decide +kernel) (by decide +kernel) ⟨rfl, rfl, rfl, rfl, rfl, by decide +kernel⟩ ?hw ?hc
  case hw => w_witness2
  case hc =>
    refine LamX.walk_ofTsE (l := PySem.Challenge.rw_cookcalls_k23_orders_refused) (n := 63) (k := 13) (x := "_law_script") (CX := fun _ => L2.CX0) rfl (by decide) (by kernel_rfl) ⟨rfl, by decide, by decide⟩ ?F (fun _ _ _ _ _ z => z)
    intro w mg fz h Y G hmg0
    obtain ⟨K, KX, c⟩ := Y
    have hmg : mg ("law" : PySem.Str) = some (.ref fz) := by
      have e : (HandSHeadRun.topDef (OpenLaw.row PySem.Challenge.rw_cookcalls_k23_orders_refused).prog 98).name = ("law" : PySem.Str) := by kernel_rfl
      rw [← e]
      exact hmg0
    obtain ⟨fd, hb, hF⟩ := K5.factsX (P := (PySem.Challenge.rw_cookcalls_k23_orders_refused).prog) (w := w) KX G hmg c.d c.e c.s
    have ou := fun p hp => He.ba (List.all_eq_true.mp c.o p hp)
    exact ⟨K, KX, fd, K5.tbL, K5.spLawT K 958, c.t, fun p hp => Option.isNone_iff_eq_none.mp (ou p hp).2, fun p hp => PySem.W.codeHd_of_K KX (ou p hp).1, hb, fun H a ns hl _ hT hS => ⟨a, ns, rfl, hS, hl, K5.tabs0 hT, fun _ => rfl⟩, fun base h1 h2 h3 => hF base h1 h2 (h3 _ (List.mem_cons_self ..))⟩
