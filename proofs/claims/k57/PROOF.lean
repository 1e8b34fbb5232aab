import PyProof.Rows.All
import Wide.All
import OpenK.AllK
import Wide.FinOn
import HandS.ForMost
import HandS.Wide
import HandS.IsInst
import HandS.Deep
import HandS.TupAny
import HandS.Flow
import HandS.Zip
import HandS.Defaults
import HandS.More
import HandS.DictComp
import HandS.WordsDict
import HandS.OwnEq
import HandS.Style
import HandS.Lambda
import HandS.TryMany
import HandS.ExcInit
import HandS.ExcField
import HandS.ForDict
import HandS.EndTab
import PyProof.Rows.StrMeet
import HandS.Star
import HandS.WordsExc
import HandS.ListItems
import HandS.Finally
import HandS.Small
import KE.KStateDown
import KE.KExcInit
import HandS.Head0
import HandS.Head1
import HandS.Head2
import HandS.HeadEnd
import HandS.HeadHook1
import HandS.HeadHook2
import HandS.HeadHook3
import HandS.HeadHook4
import HandS.HeadWalk
import HandS.Walk
import KE.GoesMore
import PyProof.Draws
import HandS.Words
import HandS.DeepEq
import HandS.Sort
import KE.KDictList
import HandS.Iter
import HandS.IterVal
import KE.KOwnIter
import HandS.OwnIter
import HandS.NamedTupGet
import PyProof.DictRoadsH
import KE.KOpsOwn
import KE.KExcMake
import HandS.Exc
import HandS.TryOnly
import HandS.Strs
import KE.KRevSl
import PyProof.DictDisplay
import PyProof.DictTable
import KE.KEqNest
import KE.KDictSum
import PyProof.NeKinds
import PyProof.EqAt
import HandS.SetFor
import PyProof.Rows.InDataRows
import HandS.SortRule
import PySem.Challenge.RW_cookcalls_k57_evenings_far
set_option Elab.async false
set_option linter.all false
set_option maxRecDepth 100000
set_option maxHeartbeats 4000000
namespace K5
open PySem L2
def top (i : Nat) : Stmt := PySem.Challenge.pw_cookcalls_k57_evenings_far.main.body.getD i (.Pass ⟨0, 0, 0, 0⟩)
abbrev s_is_integer : Stmt := top 5
abbrev N_is_integer : List Str := ["thing"]
abbrev P_is_integer : List Str := ["thing"]
theorem sc_is_integer : FnScope N_is_integer P_is_integer (defScope s_is_integer) := ⟨rfl, rfl, rfl, by decide +kernel, rfl, by decide +kernel, by decide +kernel⟩
abbrev s_is_list : Stmt := top 6
abbrev N_is_list : List Str := ["thing"]
abbrev P_is_list : List Str := ["thing"]
theorem sc_is_list : FnScope N_is_list P_is_list (defScope s_is_list) := ⟨rfl, rfl, rfl, by decide +kernel, rfl, by decide +kernel, by decide +kernel⟩
abbrev s_is_name : Stmt := top 7
abbrev N_is_name : List Str := ["thing", "sign"]
abbrev P_is_name : List Str := ["thing"]
theorem sc_is_name : FnScope N_is_name P_is_name (defScope s_is_name) := ⟨rfl, rfl, rfl, by decide +kernel, rfl, by decide +kernel, by decide +kernel⟩
abbrev s_is_dish : Stmt := top 8
abbrev N_is_dish : List Str := ["thing", "dishes"]
abbrev P_is_dish : List Str := ["thing", "dishes"]
theorem sc_is_dish : FnScope N_is_dish P_is_dish (defScope s_is_dish) := ⟨rfl, rfl, rfl, by decide +kernel, rfl, by decide +kernel, by decide +kernel⟩
abbrev s_alike : Stmt := top 9
abbrev N_alike : List Str := ["one", "other", "mine", "yours"]
abbrev P_alike : List Str := ["one", "other"]
theorem sc_alike : FnScope N_alike P_alike (defScope s_alike) := ⟨rfl, rfl, rfl, by decide +kernel, rfl, by decide +kernel, by decide +kernel⟩
abbrev s_copied : Stmt := top 10
abbrev N_copied : List Str := ["thing", "part", "key"]
abbrev P_copied : List Str := ["thing"]
theorem sc_copied : FnScope N_copied P_copied (defScope s_copied) := ⟨rfl, rfl, rfl, by decide +kernel, rfl, by decide +kernel, by decide +kernel⟩
abbrev s_TooEarly___init__ : Stmt := inClass (top 20) 0
abbrev N_TooEarly___init__ : List Str := ["self", "name"]
abbrev P_TooEarly___init__ : List Str := ["self", "name"]
theorem sc_TooEarly___init__ : FnScope N_TooEarly___init__ P_TooEarly___init__ (defScope s_TooEarly___init__) := ⟨rfl, rfl, rfl, by decide +kernel, rfl, by decide +kernel, by decide +kernel⟩
abbrev s_Overdue___init__ : Stmt := inClass (top 25) 0
abbrev N_Overdue___init__ : List Str := ["self", "name"]
abbrev P_Overdue___init__ : List Str := ["self", "name"]
theorem sc_Overdue___init__ : FnScope N_Overdue___init__ P_Overdue___init__ (defScope s_Overdue___init__) := ⟨rfl, rfl, rfl, by decide +kernel, rfl, by decide +kernel, by decide +kernel⟩
abbrev s_TooSoon___init__ : Stmt := inClass (top 27) 0
abbrev N_TooSoon___init__ : List Str := ["self", "name"]
abbrev P_TooSoon___init__ : List Str := ["self", "name"]
theorem sc_TooSoon___init__ : FnScope N_TooSoon___init__ P_TooSoon___init__ (defScope s_TooSoon___init__) := ⟨rfl, rfl, rfl, by decide +kernel, rfl, by decide +kernel, by decide +kernel⟩
abbrev s_is_bounds : Stmt := top 31
abbrev N_is_bounds : List Str := ["thing", "least", "most"]
abbrev P_is_bounds : List Str := ["thing"]
theorem sc_is_bounds : FnScope N_is_bounds P_is_bounds (defScope s_is_bounds) := ⟨rfl, rfl, rfl, by decide +kernel, rfl, by decide +kernel, by decide +kernel⟩
abbrev s_is_moment : Stmt := top 32
abbrev N_is_moment : List Str := ["thing", "dishes"]
abbrev P_is_moment : List Str := ["thing", "dishes"]
theorem sc_is_moment : FnScope N_is_moment P_is_moment (defScope s_is_moment) := ⟨rfl, rfl, rfl, by decide +kernel, rfl, by decide +kernel, by decide +kernel⟩
abbrev s_is_wish : Stmt := top 33
abbrev N_is_wish : List Str := ["thing", "dishes", "one", "other", "most"]
abbrev P_is_wish : List Str := ["thing", "dishes"]
theorem sc_is_wish : FnScope N_is_wish P_is_wish (defScope s_is_wish) := ⟨rfl, rfl, rfl, by decide +kernel, rfl, by decide +kernel, by decide +kernel⟩
abbrev s_is_station : Stmt := top 34
abbrev N_is_station : List Str := ["thing", "dishes", "name"]
abbrev P_is_station : List Str := ["thing", "dishes"]
theorem sc_is_station : FnScope N_is_station P_is_station (defScope s_is_station) := ⟨rfl, rfl, rfl, by decide +kernel, rfl, by decide +kernel, by decide +kernel⟩
abbrev s_as_moment : Stmt := top 35
abbrev N_as_moment : List Str := ["moment"]
abbrev P_as_moment : List Str := ["moment"]
theorem sc_as_moment : FnScope N_as_moment P_as_moment (defScope s_as_moment) := ⟨rfl, rfl, rfl, by decide +kernel, rfl, by decide +kernel, by decide +kernel⟩
abbrev s_as_wish : Stmt := top 36
abbrev N_as_wish : List Str := ["wish", "one", "other", "most"]
abbrev P_as_wish : List Str := ["wish"]
theorem sc_as_wish : FnScope N_as_wish P_as_wish (defScope s_as_wish) := ⟨rfl, rfl, rfl, by decide +kernel, rfl, by decide +kernel, by decide +kernel⟩
abbrev s_check_dish : Stmt := top 38
abbrev N_check_dish : List Str := ["name", "dishes"]
abbrev P_check_dish : List Str := ["name", "dishes"]
theorem sc_check_dish : FnScope N_check_dish P_check_dish (defScope s_check_dish) := ⟨rfl, rfl, rfl, by decide +kernel, rfl, by decide +kernel, by decide +kernel⟩
abbrev s_check_same : Stmt := top 39
abbrev N_check_same : List Str := ["meal", "tree"]
abbrev P_check_same : List Str := ["meal", "tree"]
theorem sc_check_same : FnScope N_check_same P_check_same (defScope s_check_same) := ⟨rfl, rfl, rfl, by decide +kernel, rfl, by decide +kernel, by decide +kernel⟩
abbrev s_is_hook : Stmt := top 45
abbrev N_is_hook : List Str := ["thing", "rows", "key"]
abbrev P_is_hook : List Str := ["thing", "rows"]
theorem sc_is_hook : FnScope N_is_hook P_is_hook (defScope s_is_hook) := ⟨rfl, rfl, rfl, by decide +kernel, rfl, by decide +kernel, by decide +kernel⟩
abbrev s_check_rounds : Stmt := top 46
abbrev N_check_rounds : List Str := ["hooks", "name", "names"]
abbrev P_check_rounds : List Str := ["hooks"]
theorem sc_check_rounds : FnScope N_check_rounds P_check_rounds (defScope s_check_rounds) := ⟨rfl, rfl, rfl, by decide +kernel, rfl, by decide +kernel, by decide +kernel⟩
abbrev s_round_from : Stmt := top 47
abbrev N_round_from : List Str := ["name", "hooks", "names", "hook"]
abbrev P_round_from : List Str := ["name", "hooks"]
theorem sc_round_from : FnScope N_round_from P_round_from (defScope s_round_from) := ⟨rfl, rfl, rfl, by decide +kernel, rfl, by decide +kernel, by decide +kernel⟩
abbrev s_Book___init__ : Stmt := inClass (top 49) 0
abbrev N_Book___init__ : List Str := ["self", "rows", "name"]
abbrev P_Book___init__ : List Str := ["self", "rows"]
theorem sc_Book___init__ : FnScope N_Book___init__ P_Book___init__ (defScope s_Book___init__) := ⟨rfl, rfl, rfl, by decide +kernel, rfl, by decide +kernel, by decide +kernel⟩
abbrev s_Book_rows : Stmt := inClass (top 49) 2
abbrev N_Book_rows : List Str := ["self", "name"]
abbrev P_Book_rows : List Str := ["self"]
theorem sc_Book_rows : FnScope N_Book_rows P_Book_rows (defScope s_Book_rows) := ⟨rfl, rfl, rfl, by decide +kernel, rfl, by decide +kernel, by decide +kernel⟩
abbrev s_Book___getitem__ : Stmt := inClass (top 49) 7
abbrev N_Book___getitem__ : List Str := ["self", "at"]
abbrev P_Book___getitem__ : List Str := ["self", "at"]
theorem sc_Book___getitem__ : FnScope N_Book___getitem__ P_Book___getitem__ (defScope s_Book___getitem__) := ⟨rfl, rfl, rfl, by decide +kernel, rfl, by decide +kernel, by decide +kernel⟩
abbrev s_Book___iter__ : Stmt := inClass (top 49) 8
abbrev N_Book___iter__ : List Str := ["self"]
abbrev P_Book___iter__ : List Str := ["self"]
theorem sc_Book___iter__ : FnScope N_Book___iter__ P_Book___iter__ (defScope s_Book___iter__) := ⟨rfl, rfl, rfl, by decide +kernel, rfl, by decide +kernel, by decide +kernel⟩
abbrev s_check_entries : Stmt := top 50
abbrev N_check_entries : List Str := ["rows", "name"]
abbrev P_check_entries : List Str := ["rows"]
theorem sc_check_entries : FnScope N_check_entries P_check_entries (defScope s_check_entries) := ⟨rfl, rfl, rfl, by decide +kernel, rfl, by decide +kernel, by decide +kernel⟩
abbrev s_is_entry : Stmt := top 51
abbrev N_is_entry : List Str := ["thing", "rows", "hook", "wait"]
abbrev P_is_entry : List Str := ["thing", "rows"]
theorem sc_is_entry : FnScope N_is_entry P_is_entry (defScope s_is_entry) := ⟨rfl, rfl, rfl, by decide +kernel, rfl, by decide +kernel, by decide +kernel⟩
abbrev s_is_wait : Stmt := top 52
abbrev N_is_wait : List Str := ["thing"]
abbrev P_is_wait : List Str := ["thing"]
theorem sc_is_wait : FnScope N_is_wait P_is_wait (defScope s_is_wait) := ⟨rfl, rfl, rfl, by decide +kernel, rfl, by decide +kernel, by decide +kernel⟩
abbrev s_Meal___init__ : Stmt := inClass (top 58) 0
abbrev N_Meal___init__ : List Str := ["self", "dishes", "wishes", "stations", "name", "wish", "station"]
abbrev P_Meal___init__ : List Str := ["self", "dishes", "wishes", "stations"]
theorem sc_Meal___init__ : FnScope N_Meal___init__ P_Meal___init__ (defScope s_Meal___init__) := ⟨rfl, rfl, rfl, by decide +kernel, rfl, by decide +kernel, by decide +kernel⟩
abbrev s_Meal_dishes : Stmt := inClass (top 58) 1
abbrev N_Meal_dishes : List Str := ["self"]
abbrev P_Meal_dishes : List Str := ["self"]
theorem sc_Meal_dishes : FnScope N_Meal_dishes P_Meal_dishes (defScope s_Meal_dishes) := ⟨rfl, rfl, rfl, by decide +kernel, rfl, by decide +kernel, by decide +kernel⟩
abbrev s_Meal___len__ : Stmt := inClass (top 58) 7
abbrev N_Meal___len__ : List Str := ["self"]
abbrev P_Meal___len__ : List Str := ["self"]
theorem sc_Meal___len__ : FnScope N_Meal___len__ P_Meal___len__ (defScope s_Meal___len__) := ⟨rfl, rfl, rfl, by decide +kernel, rfl, by decide +kernel, by decide +kernel⟩
abbrev s_Meal___iter__ : Stmt := inClass (top 58) 9
abbrev N_Meal___iter__ : List Str := ["self"]
abbrev P_Meal___iter__ : List Str := ["self"]
theorem sc_Meal___iter__ : FnScope N_Meal___iter__ P_Meal___iter__ (defScope s_Meal___iter__) := ⟨rfl, rfl, rfl, by decide +kernel, rfl, by decide +kernel, by decide +kernel⟩
abbrev s_Meal___add__ : Stmt := inClass (top 58) 10
abbrev N_Meal___add__ : List Str := ["self", "other", "name", "dishes"]
abbrev P_Meal___add__ : List Str := ["self", "other"]
theorem sc_Meal___add__ : FnScope N_Meal___add__ P_Meal___add__ (defScope s_Meal___add__) := ⟨rfl, rfl, rfl, by decide +kernel, rfl, by decide +kernel, by decide +kernel⟩
abbrev s_check_dishes : Stmt := top 59
abbrev N_check_dishes : List Str := ["dishes", "name"]
abbrev P_check_dishes : List Str := ["dishes"]
theorem sc_check_dishes : FnScope N_check_dishes P_check_dishes (defScope s_check_dishes) := ⟨rfl, rfl, rfl, by decide +kernel, rfl, by decide +kernel, by decide +kernel⟩
abbrev s_check_wishes : Stmt := top 60
abbrev N_check_wishes : List Str := ["wishes", "dishes", "index", "thing"]
abbrev P_check_wishes : List Str := ["wishes", "dishes"]
theorem sc_check_wishes : FnScope N_check_wishes P_check_wishes (defScope s_check_wishes) := ⟨rfl, rfl, rfl, by decide +kernel, rfl, by decide +kernel, by decide +kernel⟩
abbrev s_check_stations : Stmt := top 61
abbrev N_check_stations : List Str := ["stations", "dishes", "index", "thing"]
abbrev P_check_stations : List Str := ["stations", "dishes"]
theorem sc_check_stations : FnScope N_check_stations P_check_stations (defScope s_check_stations) := ⟨rfl, rfl, rfl, by decide +kernel, rfl, by decide +kernel, by decide +kernel⟩
abbrev s_Course___init__ : Stmt := inClass (top 63) 0
abbrev N_Course___init__ : List Str := ["self", "passed", "dinner", "plan", "starts", "dones"]
abbrev P_Course___init__ : List Str := ["self", "passed", "dinner", "plan", "starts", "dones"]
theorem sc_Course___init__ : FnScope N_Course___init__ P_Course___init__ (defScope s_Course___init__) := ⟨rfl, rfl, rfl, by decide +kernel, rfl, by decide +kernel, by decide +kernel⟩
abbrev s_opened : Stmt := top 64
abbrev N_opened : List Str := ["meal", "book"]
abbrev P_opened : List Str := ["meal", "book"]
theorem sc_opened : FnScope N_opened P_opened (defScope s_opened) := ⟨rfl, rfl, rfl, by decide +kernel, rfl, by decide +kernel, by decide +kernel⟩
abbrev s_due : Stmt := top 65
abbrev N_due : List Str := ["course", "name", "hook", "wait"]
abbrev P_due : List Str := ["course", "name"]
theorem sc_due : FnScope N_due P_due (defScope s_due) := ⟨rfl, rfl, rfl, by decide +kernel, rfl, by decide +kernel, by decide +kernel⟩
abbrev s_started_until : Stmt := top 66
abbrev N_started_until : List Str := ["course", "minute", "dues", "pairs", "fresh", "name", "at"]
abbrev P_started_until : List Str := ["course", "minute"]
theorem sc_started_until : FnScope N_started_until P_started_until (defScope s_started_until) := ⟨rfl, rfl, rfl, by decide +kernel, rfl, by decide +kernel, by decide +kernel⟩
abbrev s_is_running : Stmt := top 67
abbrev N_is_running : List Str := ["course", "name"]
abbrev P_is_running : List Str := ["course", "name"]
theorem sc_is_running : FnScope N_is_running P_is_running (defScope s_is_running) := ⟨rfl, rfl, rfl, by decide +kernel, rfl, by decide +kernel, by decide +kernel⟩
abbrev s_state_of : Stmt := top 68
abbrev N_state_of : List Str := ["course", "name"]
abbrev P_state_of : List Str := ["course", "name"]
theorem sc_state_of : FnScope N_state_of P_state_of (defScope s_state_of) := ⟨rfl, rfl, rfl, by decide +kernel, rfl, by decide +kernel, by decide +kernel⟩
abbrev s_gone : Stmt := top 69
abbrev N_gone : List Str := ["course", "minutes", "later", "started", "bounds", "name"]
abbrev P_gone : List Str := ["course", "minutes"]
theorem sc_gone : FnScope N_gone P_gone (defScope s_gone) := ⟨rfl, rfl, rfl, by decide +kernel, rfl, by decide +kernel, by decide +kernel⟩
abbrev s_called : Stmt := top 70
abbrev N_called : List Str := ["course", "name", "bounds", "dones", "after", "started", "minute", "dish"]
abbrev P_called : List Str := ["course", "name"]
theorem sc_called : FnScope N_called P_called (defScope s_called) := ⟨rfl, rfl, rfl, by decide +kernel, rfl, by decide +kernel, by decide +kernel⟩
abbrev s_put_in : Stmt := top 71
abbrev N_put_in : List Str := ["course", "name", "least", "most", "other", "wait", "bounds"]
abbrev P_put_in : List Str := ["course", "name", "least", "most", "other", "wait"]
theorem sc_put_in : FnScope N_put_in P_put_in (defScope s_put_in) := ⟨rfl, rfl, rfl, by decide +kernel, rfl, by decide +kernel, by decide +kernel⟩
abbrev s_hung_at : Stmt := top 72
abbrev N_hung_at : List Str := ["course", "meal", "name", "entry", "rows", "hung", "minute", "after", "started"]
abbrev P_hung_at : List Str := ["course", "meal", "name", "entry"]
theorem sc_hung_at : FnScope N_hung_at P_hung_at (defScope s_hung_at) := ⟨rfl, rfl, rfl, by decide +kernel, rfl, by decide +kernel, by decide +kernel⟩
abbrev s_Evening___init__ : Stmt := inClass (top 75) 0
abbrev N_Evening___init__ : List Str := ["self", "meal", "book"]
abbrev P_Evening___init__ : List Str := ["self", "meal", "book"]
theorem sc_Evening___init__ : FnScope N_Evening___init__ P_Evening___init__ (defScope s_Evening___init__) := ⟨rfl, rfl, rfl, by decide +kernel, rfl, by decide +kernel, by decide +kernel⟩
abbrev s_Evening_minute : Stmt := inClass (top 75) 1
abbrev N_Evening_minute : List Str := ["self"]
abbrev P_Evening_minute : List Str := ["self"]
theorem sc_Evening_minute : FnScope N_Evening_minute P_Evening_minute (defScope s_Evening_minute) := ⟨rfl, rfl, rfl, by decide +kernel, rfl, by decide +kernel, by decide +kernel⟩
abbrev s_Evening_state : Stmt := inClass (top 75) 2
abbrev N_Evening_state : List Str := ["self", "name"]
abbrev P_Evening_state : List Str := ["self", "name"]
theorem sc_Evening_state : FnScope N_Evening_state P_Evening_state (defScope s_Evening_state) := ⟨rfl, rfl, rfl, by decide +kernel, rfl, by decide +kernel, by decide +kernel⟩
abbrev s_Evening_go : Stmt := inClass (top 75) 5
abbrev N_Evening_go : List Str := ["self", "minutes"]
abbrev P_Evening_go : List Str := ["self", "minutes"]
theorem sc_Evening_go : FnScope N_Evening_go P_Evening_go (defScope s_Evening_go) := ⟨rfl, rfl, rfl, by decide +kernel, rfl, by decide +kernel, by decide +kernel⟩
abbrev s_Evening_call : Stmt := inClass (top 75) 6
abbrev N_Evening_call : List Str := ["self", "name"]
abbrev P_Evening_call : List Str := ["self", "name"]
theorem sc_Evening_call : FnScope N_Evening_call P_Evening_call (defScope s_Evening_call) := ⟨rfl, rfl, rfl, by decide +kernel, rfl, by decide +kernel, by decide +kernel⟩
abbrev s_Evening_put : Stmt := inClass (top 75) 7
abbrev N_Evening_put : List Str := ["self", "name", "least", "most", "other", "wait"]
abbrev P_Evening_put : List Str := ["self", "name", "least", "most", "other", "wait"]
theorem sc_Evening_put : FnScope N_Evening_put P_Evening_put (defScope s_Evening_put) := ⟨rfl, rfl, rfl, by decide +kernel, rfl, by decide +kernel, by decide +kernel⟩
abbrev s_Evening_follow : Stmt := inClass (top 75) 10
abbrev N_Evening_follow : List Str := ["self", "deed", "course", "found"]
abbrev P_Evening_follow : List Str := ["self", "deed"]
theorem sc_Evening_follow : FnScope N_Evening_follow P_Evening_follow (defScope s_Evening_follow) := ⟨rfl, rfl, rfl, by decide +kernel, rfl, by decide +kernel, by decide +kernel⟩
abbrev s_Evening_undo : Stmt := inClass (top 75) 11
abbrev N_Evening_undo : List Str := ["self"]
abbrev P_Evening_undo : List Str := ["self"]
theorem sc_Evening_undo : FnScope N_Evening_undo P_Evening_undo (defScope s_Evening_undo) := ⟨rfl, rfl, rfl, by decide +kernel, rfl, by decide +kernel, by decide +kernel⟩
abbrev s__law_fresh : Stmt := top 77
abbrev N__law_fresh : List Str := ["_law_script"]
abbrev P__law_fresh : List Str := ["_law_script"]
theorem sc__law_fresh : FnScope N__law_fresh P__law_fresh (defScope s__law_fresh) := ⟨rfl, rfl, rfl, by decide +kernel, rfl, by decide +kernel, by decide +kernel⟩
abbrev s__law_take : Stmt := top 78
abbrev N__law_take : List Str := ["_law_state", "_law_many", "_law_cell", "_law_digit", "_law_mixed"]
abbrev P__law_take : List Str := ["_law_state", "_law_many"]
theorem sc__law_take : FnScope N__law_take P__law_take (defScope s__law_take) := ⟨rfl, rfl, rfl, by decide +kernel, rfl, by decide +kernel, by decide +kernel⟩
abbrev s__law_one : Stmt := top 79
abbrev N__law_one : List Str := ["_law_state", "_law_things"]
abbrev P__law_one : List Str := ["_law_state", "_law_things"]
theorem sc__law_one : FnScope N__law_one P__law_one (defScope s__law_one) := ⟨rfl, rfl, rfl, by decide +kernel, rfl, by decide +kernel, by decide +kernel⟩
abbrev s__law_mix : Stmt := top 80
abbrev N__law_mix : List Str := ["_law_state", "_law_things", "_law_left", "_law_found"]
abbrev P__law_mix : List Str := ["_law_state", "_law_things"]
theorem sc__law_mix : FnScope N__law_mix P__law_mix (defScope s__law_mix) := ⟨rfl, rfl, rfl, by decide +kernel, rfl, by decide +kernel, by decide +kernel⟩
abbrev s__law_same : Stmt := top 81
abbrev N__law_same : List Str := ["_law_found", "_law_due", "_law_x", "_law_y"]
abbrev P__law_same : List Str := ["_law_found", "_law_due"]
theorem sc__law_same : FnScope N__law_same P__law_same (defScope s__law_same) := ⟨rfl, rfl, rfl, by decide +kernel, rfl, by decide +kernel, by decide +kernel⟩
abbrev s__law_names : Stmt := top 82
abbrev N__law_names : List Str := ["_law_state", "_law_many", "_law_some"]
abbrev P__law_names : List Str := ["_law_state", "_law_many"]
theorem sc__law_names : FnScope N__law_names P__law_names (defScope s__law_names) := ⟨rfl, rfl, rfl, by decide +kernel, rfl, by decide +kernel, by decide +kernel⟩
abbrev s__law_refused : Stmt := top 83
abbrev N__law_refused : List Str := ["_law_evening", "_law_word", "_law_name", "_law_minutes", "_law_found", "e"]
abbrev P__law_refused : List Str := ["_law_evening", "_law_word", "_law_name", "_law_minutes"]
theorem sc__law_refused : FnScope N__law_refused P__law_refused (defScope s__law_refused) := ⟨rfl, rfl, rfl, by decide +kernel, rfl, by decide +kernel, by decide +kernel⟩
abbrev s__law_is_over : Stmt := top 84
abbrev N__law_is_over : List Str := ["_law_evening", "_law_names_here", "_law_spans", "_law_found"]
abbrev P__law_is_over : List Str := ["_law_evening", "_law_names_here", "_law_spans"]
theorem sc__law_is_over : FnScope N__law_is_over P__law_is_over (defScope s__law_is_over) := ⟨rfl, rfl, rfl, by decide +kernel, rfl, by decide +kernel, by decide +kernel⟩
abbrev s__law_number : Stmt := top 85
abbrev N__law_number : List Str := ["_law_state"]
abbrev P__law_number : List Str := ["_law_state"]
theorem sc__law_number : FnScope N__law_number P__law_number (defScope s__law_number) := ⟨rfl, rfl, rfl, by decide +kernel, rfl, by decide +kernel, by decide +kernel⟩
abbrev s_law : Stmt := top 86
abbrev N_law : List Str := ["_law_script", "_law_state", "_law_turn", "_law_one_here", "_law_other", "_law_wait", "_law_gap", "_law_least", "_law_more", "_law_dishes", "_law_evening", "_law_found", "_law_now", "_law_spans"]
abbrev P_law : List Str := ["_law_script"]
theorem sc_law : FnScope N_law P_law (defScope s_law) := ⟨rfl, rfl, rfl, by decide +kernel, rfl, by decide +kernel, by decide +kernel⟩
end K5
set_option Elab.async false
set_option linter.all false
set_option maxRecDepth 100000
set_option maxHeartbeats 0
namespace K5
open PySem PySem.Spec PyProof.Rows L2

theorem mi_of {K : PySem.W.Frag} {x m : Str} (c : (He.Fa.meth x m).ok K = true) : PySem.W.findIn K (.ref (He.ga K x)) m = some (some (.ref (He.ma K (He.ga K x) m))) ∧ PySem.W.isFn K (.ref (He.ma K (He.ga K x) m)) = true := ⟨(He.meth_ok c).at_, (He.meth_ok c).fn⟩
def mroB (K : PySem.W.Frag) (C : Addr) : Bool := match K.lookup C with
  | some ⟨_, _, .cls cd, _⟩ => cd.hasDict && PySem.HandSPX.refsVE (cd.mro.drop 1)
  | _ => false
theorem oex_of {K : PySem.W.Frag} {h : Heap} {C : Addr} (X : K.In h) (q : PySem.W.excInitIn K C He.veBase "ValueError.__new__" = true) (m : mroB K C = true) (sa : PySem.W.findIn K (.ref C) "__setattr__" = some (some (.builtin "object.__setattr__")))
    (sx : PySem.W.subIn K (.ref C) (.type "BaseException") = some true) (ty : PySem.W.typeIn K (.ref C) = some (.type "type")) (ke : PySem.W.keepIn K (.ref C) = true) : OexC K C := by
  obtain ⟨nm, N, qn, bs, bm, hd, sn, sub, ab, col, dd, k0, k1, k2, k3, k5, e, _⟩ := PySem.W.excInit_of X q
  cases z : K.lookup C with
  | none =>
    unfold mroB at m
    rw [z] at m
    cases m
  | some o =>
    have e2 := X _ _ z
    rw [e] at e2
    cases e2
    unfold mroB at m
    rw [z] at m
    have m2 : (hd && PySem.HandSPX.refsVE bm) = true := m
    obtain ⟨m3, m4⟩ := He.ba m2
    subst m3
    exact ⟨⟨nm, qn, N, bs, bm, sn, sub, ab, col, dd, k0, k1, k2, k3, k5, z, m4⟩, sa, sx, ty, ke⟩
def tupA (K : PySem.W.Frag) (a : Addr) (vs : List V) : Bool := match K.lookup a with
  | some ⟨.type c, _, .seq its _, _⟩ => decide (c = "tuple") && (decide (its.size ≤ sizeLine) && He.relAll vs its.toList)
  | _ => false
theorem tupA_ok {K : PySem.W.Frag} {a : Addr} {vs : List V} (h : tupA K a vs = true) (H : Hp) : SqT K H a vs := by
  unfold tupA at h
  split at h
  · rename_i c od its n sl q
    obtain ⟨h1, h2⟩ := He.ba h
    obtain ⟨h3, h4⟩ := He.ba h2
    exact .inr ⟨_, its, n, q, congrArg Value.type (of_decide_eq_true h1), rfl, of_decide_eq_true h3, He.relAll_ok h4⟩
  · cases h
theorem atB {bs : List Bool} (h : bs.all id = true) {i : Nat} {b : Bool} (e : bs[i]? = some b) : b = true := List.all_eq_true.mp h b (List.mem_of_getElem? e)
def dd_is_integer : He.DefD := ⟨("is_integer", none), "is_integer", "is_integer", defArgs s_is_integer, defBody s_is_integer, defScope s_is_integer, [], []⟩
def dd_is_list : He.DefD := ⟨("is_list", none), "is_list", "is_list", defArgs s_is_list, defBody s_is_list, defScope s_is_list, [], []⟩
def dd_is_name : He.DefD := ⟨("is_name", none), "is_name", "is_name", defArgs s_is_name, defBody s_is_name, defScope s_is_name, [], []⟩
def dd_is_dish : He.DefD := ⟨("is_dish", none), "is_dish", "is_dish", defArgs s_is_dish, defBody s_is_dish, defScope s_is_dish, [], []⟩
def dd_alike : He.DefD := ⟨("alike", none), "alike", "alike", defArgs s_alike, defBody s_alike, defScope s_alike, [], []⟩
def dd_copied : He.DefD := ⟨("copied", none), "copied", "copied", defArgs s_copied, defBody s_copied, defScope s_copied, [], []⟩
def dd_TooEarly___init__ : He.DefD := ⟨("TooEarly", some "__init__"), "__init__", "TooEarly.__init__", defArgs s_TooEarly___init__, defBody s_TooEarly___init__, defScope s_TooEarly___init__, [], []⟩
def dd_Overdue___init__ : He.DefD := ⟨("Overdue", some "__init__"), "__init__", "Overdue.__init__", defArgs s_Overdue___init__, defBody s_Overdue___init__, defScope s_Overdue___init__, [], []⟩
def dd_TooSoon___init__ : He.DefD := ⟨("TooSoon", some "__init__"), "__init__", "TooSoon.__init__", defArgs s_TooSoon___init__, defBody s_TooSoon___init__, defScope s_TooSoon___init__, [], []⟩
def dd_is_bounds : He.DefD := ⟨("is_bounds", none), "is_bounds", "is_bounds", defArgs s_is_bounds, defBody s_is_bounds, defScope s_is_bounds, [], []⟩
def dd_is_moment : He.DefD := ⟨("is_moment", none), "is_moment", "is_moment", defArgs s_is_moment, defBody s_is_moment, defScope s_is_moment, [], []⟩
def dd_is_wish : He.DefD := ⟨("is_wish", none), "is_wish", "is_wish", defArgs s_is_wish, defBody s_is_wish, defScope s_is_wish, [], []⟩
def dd_is_station : He.DefD := ⟨("is_station", none), "is_station", "is_station", defArgs s_is_station, defBody s_is_station, defScope s_is_station, [], []⟩
def dd_as_moment : He.DefD := ⟨("as_moment", none), "as_moment", "as_moment", defArgs s_as_moment, defBody s_as_moment, defScope s_as_moment, [], []⟩
def dd_as_wish : He.DefD := ⟨("as_wish", none), "as_wish", "as_wish", defArgs s_as_wish, defBody s_as_wish, defScope s_as_wish, [], []⟩
def dd_check_dish : He.DefD := ⟨("check_dish", none), "check_dish", "check_dish", defArgs s_check_dish, defBody s_check_dish, defScope s_check_dish, [], []⟩
def dd_check_same : He.DefD := ⟨("check_same", none), "check_same", "check_same", defArgs s_check_same, defBody s_check_same, defScope s_check_same, [], []⟩
def dd_is_hook : He.DefD := ⟨("is_hook", none), "is_hook", "is_hook", defArgs s_is_hook, defBody s_is_hook, defScope s_is_hook, [], []⟩
def dd_check_rounds : He.DefD := ⟨("check_rounds", none), "check_rounds", "check_rounds", defArgs s_check_rounds, defBody s_check_rounds, defScope s_check_rounds, [], []⟩
def dd_round_from : He.DefD := ⟨("round_from", none), "round_from", "round_from", defArgs s_round_from, defBody s_round_from, defScope s_round_from, [], []⟩
def dd_Book___init__ : He.DefD := ⟨("Book", some "__init__"), "__init__", "Book.__init__", defArgs s_Book___init__, defBody s_Book___init__, defScope s_Book___init__, [], []⟩
def dd_Book_rows : He.DefD := ⟨("Book", some "rows"), "rows", "Book.rows", defArgs s_Book_rows, defBody s_Book_rows, defScope s_Book_rows, [], []⟩
def dd_Book___getitem__ : He.DefD := ⟨("Book", some "__getitem__"), "__getitem__", "Book.__getitem__", defArgs s_Book___getitem__, defBody s_Book___getitem__, defScope s_Book___getitem__, [], []⟩
def dd_Book___iter__ : He.DefD := ⟨("Book", some "__iter__"), "__iter__", "Book.__iter__", defArgs s_Book___iter__, defBody s_Book___iter__, defScope s_Book___iter__, [], []⟩
def dd_check_entries : He.DefD := ⟨("check_entries", none), "check_entries", "check_entries", defArgs s_check_entries, defBody s_check_entries, defScope s_check_entries, [], []⟩
def dd_is_entry : He.DefD := ⟨("is_entry", none), "is_entry", "is_entry", defArgs s_is_entry, defBody s_is_entry, defScope s_is_entry, [], []⟩
def dd_is_wait : He.DefD := ⟨("is_wait", none), "is_wait", "is_wait", defArgs s_is_wait, defBody s_is_wait, defScope s_is_wait, [], []⟩
def dd_Meal___init__ : He.DefD := ⟨("Meal", some "__init__"), "__init__", "Meal.__init__", defArgs s_Meal___init__, defBody s_Meal___init__, defScope s_Meal___init__, [.adr (He.dflAt ("Meal", some "__init__") 0), .adr (He.dflAt ("Meal", some "__init__") 1)], []⟩
def dd_Meal_dishes : He.DefD := ⟨("Meal", some "dishes"), "dishes", "Meal.dishes", defArgs s_Meal_dishes, defBody s_Meal_dishes, defScope s_Meal_dishes, [], []⟩
def dd_Meal___len__ : He.DefD := ⟨("Meal", some "__len__"), "__len__", "Meal.__len__", defArgs s_Meal___len__, defBody s_Meal___len__, defScope s_Meal___len__, [], []⟩
def dd_Meal___iter__ : He.DefD := ⟨("Meal", some "__iter__"), "__iter__", "Meal.__iter__", defArgs s_Meal___iter__, defBody s_Meal___iter__, defScope s_Meal___iter__, [], []⟩
def dd_Meal___add__ : He.DefD := ⟨("Meal", some "__add__"), "__add__", "Meal.__add__", defArgs s_Meal___add__, defBody s_Meal___add__, defScope s_Meal___add__, [], []⟩
def dd_check_dishes : He.DefD := ⟨("check_dishes", none), "check_dishes", "check_dishes", defArgs s_check_dishes, defBody s_check_dishes, defScope s_check_dishes, [], []⟩
def dd_check_wishes : He.DefD := ⟨("check_wishes", none), "check_wishes", "check_wishes", defArgs s_check_wishes, defBody s_check_wishes, defScope s_check_wishes, [], []⟩
def dd_check_stations : He.DefD := ⟨("check_stations", none), "check_stations", "check_stations", defArgs s_check_stations, defBody s_check_stations, defScope s_check_stations, [], []⟩
def dd_Course___init__ : He.DefD := ⟨("Course", some "__init__"), "__init__", "Course.__init__", defArgs s_Course___init__, defBody s_Course___init__, defScope s_Course___init__, [], []⟩
def dd_opened : He.DefD := ⟨("opened", none), "opened", "opened", defArgs s_opened, defBody s_opened, defScope s_opened, [], []⟩
def dd_due : He.DefD := ⟨("due", none), "due", "due", defArgs s_due, defBody s_due, defScope s_due, [], []⟩
def dd_started_until : He.DefD := ⟨("started_until", none), "started_until", "started_until", defArgs s_started_until, defBody s_started_until, defScope s_started_until, [], []⟩
def dd_is_running : He.DefD := ⟨("is_running", none), "is_running", "is_running", defArgs s_is_running, defBody s_is_running, defScope s_is_running, [], []⟩
def dd_state_of : He.DefD := ⟨("state_of", none), "state_of", "state_of", defArgs s_state_of, defBody s_state_of, defScope s_state_of, [], []⟩
def dd_gone : He.DefD := ⟨("gone", none), "gone", "gone", defArgs s_gone, defBody s_gone, defScope s_gone, [], []⟩
def dd_called : He.DefD := ⟨("called", none), "called", "called", defArgs s_called, defBody s_called, defScope s_called, [], []⟩
def dd_put_in : He.DefD := ⟨("put_in", none), "put_in", "put_in", defArgs s_put_in, defBody s_put_in, defScope s_put_in, [], []⟩
def dd_hung_at : He.DefD := ⟨("hung_at", none), "hung_at", "hung_at", defArgs s_hung_at, defBody s_hung_at, defScope s_hung_at, [], []⟩
def dd_Evening___init__ : He.DefD := ⟨("Evening", some "__init__"), "__init__", "Evening.__init__", defArgs s_Evening___init__, defBody s_Evening___init__, defScope s_Evening___init__, [], []⟩
def dd_Evening_minute : He.DefD := ⟨("Evening", some "minute"), "minute", "Evening.minute", defArgs s_Evening_minute, defBody s_Evening_minute, defScope s_Evening_minute, [], []⟩
def dd_Evening_state : He.DefD := ⟨("Evening", some "state"), "state", "Evening.state", defArgs s_Evening_state, defBody s_Evening_state, defScope s_Evening_state, [], []⟩
def dd_Evening_go : He.DefD := ⟨("Evening", some "go"), "go", "Evening.go", defArgs s_Evening_go, defBody s_Evening_go, defScope s_Evening_go, [], []⟩
def dd_Evening_call : He.DefD := ⟨("Evening", some "call"), "call", "Evening.call", defArgs s_Evening_call, defBody s_Evening_call, defScope s_Evening_call, [], []⟩
def dd_Evening_put : He.DefD := ⟨("Evening", some "put"), "put", "Evening.put", defArgs s_Evening_put, defBody s_Evening_put, defScope s_Evening_put, [], []⟩
def dd_Evening_follow : He.DefD := ⟨("Evening", some "follow"), "follow", "Evening.follow", defArgs s_Evening_follow, defBody s_Evening_follow, defScope s_Evening_follow, [], []⟩
def dd_Evening_undo : He.DefD := ⟨("Evening", some "undo"), "undo", "Evening.undo", defArgs s_Evening_undo, defBody s_Evening_undo, defScope s_Evening_undo, [], []⟩
def dd__law_fresh : He.DefD := ⟨("_law_fresh", none), "_law_fresh", "_law_fresh", defArgs s__law_fresh, defBody s__law_fresh, defScope s__law_fresh, [], []⟩
def dd__law_take : He.DefD := ⟨("_law_take", none), "_law_take", "_law_take", defArgs s__law_take, defBody s__law_take, defScope s__law_take, [], []⟩
def dd__law_one : He.DefD := ⟨("_law_one", none), "_law_one", "_law_one", defArgs s__law_one, defBody s__law_one, defScope s__law_one, [], []⟩
def dd__law_mix : He.DefD := ⟨("_law_mix", none), "_law_mix", "_law_mix", defArgs s__law_mix, defBody s__law_mix, defScope s__law_mix, [], []⟩
def dd__law_same : He.DefD := ⟨("_law_same", none), "_law_same", "_law_same", defArgs s__law_same, defBody s__law_same, defScope s__law_same, [], []⟩
def dd__law_names : He.DefD := ⟨("_law_names", none), "_law_names", "_law_names", defArgs s__law_names, defBody s__law_names, defScope s__law_names, [], []⟩
def dd__law_refused : He.DefD := ⟨("_law_refused", none), "_law_refused", "_law_refused", defArgs s__law_refused, defBody s__law_refused, defScope s__law_refused, [], []⟩
def dd__law_is_over : He.DefD := ⟨("_law_is_over", none), "_law_is_over", "_law_is_over", defArgs s__law_is_over, defBody s__law_is_over, defScope s__law_is_over, [], []⟩
def dd__law_number : He.DefD := ⟨("_law_number", none), "_law_number", "_law_number", defArgs s__law_number, defBody s__law_number, defScope s__law_number, [], []⟩
def dd_law : He.DefD := ⟨("law", none), "law", "law", defArgs s_law, defBody s_law, defScope s_law, [], []⟩
def fn0 : List He.DefD := [dd_is_integer, dd_is_list, dd_is_name, dd_is_dish, dd_alike, dd_copied, dd_TooEarly___init__, dd_Overdue___init__, dd_TooSoon___init__, dd_is_bounds, dd_is_moment, dd_is_wish, dd_is_station, dd_as_moment, dd_as_wish, dd_check_dish, dd_check_same, dd_is_hook, dd_check_rounds, dd_round_from, dd_Book___init__, dd_Book_rows, dd_Book___getitem__, dd_Book___iter__, dd_check_entries, dd_is_entry, dd_is_wait, dd_Meal___init__, dd_Meal_dishes, dd_Meal___len__]
def fn1 : List He.DefD := [dd_Meal___iter__, dd_Meal___add__, dd_check_dishes, dd_check_wishes, dd_check_stations, dd_Course___init__, dd_opened, dd_due, dd_started_until, dd_is_running, dd_state_of, dd_gone, dd_called, dd_put_in, dd_hung_at, dd_Evening___init__, dd_Evening_minute, dd_Evening_state, dd_Evening_go, dd_Evening_call, dd_Evening_put, dd_Evening_follow, dd_Evening_undo, dd__law_fresh, dd__law_take, dd__law_one, dd__law_mix, dd__law_same, dd__law_names, dd__law_refused]
def fn2 : List He.DefD := [dd__law_is_over, dd__law_number, dd_law]
def fnL : List He.DefD := fn0 ++ fn1 ++ fn2
def fa0 : List He.Fa := [.glo "is_integer", .glo "is_list", .glo "is_name", .glo "is_dish", .glo "alike", .glo "copied", .glo "is_bounds", .glo "is_moment", .glo "is_wish", .glo "is_station", .glo "as_moment", .glo "as_wish", .glo "check_dish", .glo "check_same", .glo "is_hook", .glo "check_rounds", .glo "round_from", .glo "check_entries", .glo "is_entry", .glo "is_wait", .glo "check_dishes", .glo "check_wishes", .glo "check_stations", .glo "opened", .glo "due", .glo "started_until", .glo "is_running", .glo "state_of", .glo "gone", .glo "called"]
def fa1 : List He.Fa := [.glo "put_in", .glo "hung_at", .glo "_law_fresh", .glo "_law_take", .glo "_law_one", .glo "_law_mix", .glo "_law_same", .glo "_law_names", .glo "_law_refused", .glo "_law_is_over", .glo "_law_number", .glo "law", .glo "TooEarly", .glo "Overdue", .glo "TooSoon", .glo "Book", .glo "Meal", .glo "Course", .glo "Evening", .str "CLOCK" "clock", .str "LETTERS" "abcdefghijklmnopqrstuvwxyz", .int "LONGEST_NAME" 8, .free "len", .free "abs", .free "int", .free "list", .free "tuple", .free "bool", .free "str", .free "dict"]
def fa2 : List He.Fa := [.free "isinstance", .free "all", .free "any", .free "zip", .free "enumerate", .free "range", .free "sorted", .free "set", .free "iter", .cls "Book", .cls "Course", .cls "Evening", .cls "Meal", .glo "EDGES", .meth "Overdue" "__init__", .meth "TooEarly" "__init__", .meth "TooSoon" "__init__", .meth "Evening" "call", .meth "Meal" "dishes", .meth "Evening" "follow", .meth "Evening" "go", .meth "Book" "__iter__", .meth "Meal" "__iter__", .meth "Meal" "__len__", .meth "Evening" "minute", .meth "Evening" "put", .meth "Book" "rows", .meth "Evening" "state", .meth "Evening" "undo", .mkr "Book"]
def fa3 : List He.Fa := [.mkr "Course", .mkr "Evening", .mkr "Meal", .noat "Meal" "bounds", .noat "Book" "hooks", .noat "Book" "waits", .noat "Course" "plan", .noat "Course" "dinner", .noat "Course" "dones", .noat "Course" "passed", .noat "Course" "starts", .noat "Evening" "course", .noat "Evening" "past", .noat "Book" "__length_hint__", .noat "Book" "__len__", .noat "Overdue" "name", .noat "Meal" "places", .noat "TooEarly" "name", .noat "TooSoon" "name", .noat "Meal" "wished"]
def faL : List He.Fa := fa0 ++ fa1 ++ fa2 ++ fa3
def ex0 (K : PySem.W.Frag) : List Bool := [tupA K (He.dflAt ("Meal", some "__init__") 1 K) [], tupA K (He.dflAt ("Meal", some "__init__") 0 K) [], decide (PySem.W.exmOne K (.ref (He.ga K "Overdue")) (.ref (He.ga K "Overdue")) = some true), decide (PySem.W.exmOne K (.ref (He.ga K "TooEarly")) (.ref (He.ga K "TooEarly")) = some true), decide (PySem.W.exmOne K (.ref (He.ga K "TooEarly")) (.ref (He.ga K "Overdue")) = some false), decide (PySem.W.exmOne K (.ref (He.ga K "TooEarly")) (.ref (He.ga K "TooSoon")) = some false), decide (PySem.W.exmOne K (.ref (He.ga K "TooSoon")) (.ref (He.ga K "TooSoon")) = some true), decide (PySem.W.exmOne K (.ref (He.ga K "TooSoon")) (.ref (He.ga K "Overdue")) = some false), decide (PySem.W.findIn K (.ref (He.ga K "Book")) "__getitem__" = some (some (.ref (He.ma K (He.ga K "Book") "__getitem__"))) ∧ PySem.W.fnIn K (He.ma K (He.ga K "Book") "__getitem__") = true ∧ PySem.W.isFn K (.ref (He.ma K (He.ga K "Book") "__getitem__")) = true), decide (PySem.W.findIn K (.ref (He.ga K "Meal")) (PySem.dunder (Operator.info .Add).2) = some (some (.ref (He.ma K (He.ga K "Meal") "__add__"))) ∧ PySem.W.isFn K (.ref (He.ma K (He.ga K "Meal") "__add__")) = true)]
def ex1 (K : PySem.W.Frag) : List Bool := [decide (PySem.W.selfFirst K (He.ga K "Meal") = true), decide (PySem.W.typeIn K (.ref (He.ma K (He.ga K "Overdue") "__init__")) = some (.type "function")), decide (PySem.W.typeIn K (.ref (He.ma K (He.ga K "TooEarly") "__init__")) = some (.type "function")), decide (PySem.W.typeIn K (.ref (He.ma K (He.ga K "TooSoon") "__init__")) = some (.type "function")), He.tupB K "EDGES" [.str "start", .str "done"], PySem.W.excInitIn K (He.ga K "Overdue") He.veBase "ValueError.__new__", mroB K (He.ga K "Overdue"), decide (PySem.W.findIn K (.ref (He.ga K "Overdue")) "__setattr__" = some (some (.builtin "object.__setattr__"))), decide (PySem.W.subIn K (.ref (He.ga K "Overdue")) (.type "BaseException") = some true), decide (PySem.W.typeIn K (.ref (He.ga K "Overdue")) = some (.type "type"))]
def ex2 (K : PySem.W.Frag) : List Bool := [PySem.W.keepIn K (.ref (He.ga K "Overdue")), PySem.W.excInitIn K (He.ga K "TooEarly") He.veBase "ValueError.__new__", mroB K (He.ga K "TooEarly"), decide (PySem.W.findIn K (.ref (He.ga K "TooEarly")) "__setattr__" = some (some (.builtin "object.__setattr__"))), decide (PySem.W.subIn K (.ref (He.ga K "TooEarly")) (.type "BaseException") = some true), decide (PySem.W.typeIn K (.ref (He.ga K "TooEarly")) = some (.type "type")), PySem.W.keepIn K (.ref (He.ga K "TooEarly")), PySem.W.excInitIn K (He.ga K "TooSoon") He.veBase "ValueError.__new__", mroB K (He.ga K "TooSoon"), decide (PySem.W.findIn K (.ref (He.ga K "TooSoon")) "__setattr__" = some (some (.builtin "object.__setattr__")))]
def ex3 (K : PySem.W.Frag) : List Bool := [decide (PySem.W.subIn K (.ref (He.ga K "TooSoon")) (.type "BaseException") = some true), decide (PySem.W.typeIn K (.ref (He.ga K "TooSoon")) = some (.type "type")), PySem.W.keepIn K (.ref (He.ga K "TooSoon")), L2.xfB K (He.ga K "Overdue"), L2.xfB K (He.ga K "TooEarly"), L2.xfB K (He.ga K "TooSoon")]
def exL (K : PySem.W.Frag) : List Bool := ex0 K ++ ex1 K ++ ex2 K ++ ex3 K
def exB (K : PySem.W.Frag) : Bool := (exL K).all id
abbrev RR : PySem.W.OpenRow := PySem.W.OpenLaw.row PySem.Challenge.rw_cookcalls_k57_evenings_far
def asL : List Addr := [3, 28, 35, 40, 47, 52, 57, 67, 220, 301, 339, 354, 361, 368, 375, 380, 387, 394, 401, 408, 488, 495, 502, 590, 601, 608, 615, 738, 749, 756, 763, 780, 791, 798, 803, 810, 817, 824, 829, 836, 843, 973, 984, 991, 998, 1005, 1010, 1017, 1024, 1031, 1038, 1045, 27, 34, 39, 46, 51, 56, 66, 219, 300, 338, 360, 367, 374, 379, 386, 393, 400, 407, 487, 494, 501, 589, 600, 607, 614, 737, 748, 755, 762, 779, 790, 797, 802, 809, 816, 823, 828, 835, 842, 972, 983, 990, 997, 1004, 1009, 1016, 1023, 1030, 1037, 1044, 217, 298, 336, 514, 527, 558, 565, 658, 665, 707, 721, 728, 777, 864, 871, 878, 899, 906, 913, 934, 941, 216, 297, 335, 513, 526, 557, 564, 657, 653, 664, 706, 720, 727, 776, 863, 870, 877, 898, 905, 912, 933, 940, 651, 652]
abbrev AlY : Type := He.AlD × Bool
def tbL : List (Addr × Addr) := []
def tabY (g : Addr → Option Obj) : Bool := tbL.all fun p => match g p.2 with | some x => He.emptyTab x | none => false
def outY (K : PySem.W.Frag) : Bool := tbL.all fun p => PySem.W.codeHdIn K p.1 p.2 && (K.lookup p.2).isNone
def obsY (g : Addr → Option Obj) : AlY := (fun K : PySem.W.Frag => (He.obsD faL fnL K, (exB K && outY K) && tabY g)) (He.frG g asL)
structure SayY (h : Heap) (K : PySem.W.Frag) : Prop where
  d : He.SaysD faL fnL K
  e : exB K = true
  o : outY K = true
  t : ∀ p ∈ tbL, h.get? p.2 = some { cls := .none, data := .fields #[] }
theorem sayY {h : Heap} (e : obsY h.get? = (He.valD fnL, true)) : SayY h (He.frG h.get? asL) := by
  have e1 : He.obsD faL fnL (He.frG h.get? asL) = He.valD fnL := congrArg (fun z : AlY => z.1) e
  have e2 : ((exB (He.frG h.get? asL) && outY (He.frG h.get? asL)) && tabY h.get?) = true := congrArg (fun z : AlY => z.2) e
  obtain ⟨a1, a2⟩ := He.ba e2
  obtain ⟨b1, b2⟩ := He.ba a1
  refine ⟨e1, b1, b2, fun p hp => ?_⟩
  have q := List.all_eq_true.mp a2 p hp
  cases z : h.get? p.2 with
  | none => rw [z] at q; cases q
  | some x => rw [z] at q; rw [He.emptyTab_eq q]
def hkX : PySem.W.Hook where
  α := AlY
  obs := fun s => obsY s.heap.get?
  val := fun _ => (He.valD fnL, true)
  says := fun _ h => ∃ K : PySem.W.Frag, K.In h ∧ SayY h K
  of := fun _ _ e => ⟨_, He.frG_in, sayY e⟩
  keeps := fun _ _ _ ⟨K, hK, c⟩ k => ⟨K, PySem.W.Frag.In.keeps hK k, ⟨c.d, c.e, c.o, fun p hp => k _ _ (c.t p hp)⟩⟩
def obX (s : PySem.W.SharedT) : AlY := obsY (HandSHeadRun.getT s)
theorem obX_eq (s : PySem.W.SharedT) : obX s = hkX.obs s.abs := by
  have e : HandSHeadRun.getT s = s.abs.heap.get? := funext (HandSHeadRun.getT_eq s)
  show obsY (HandSHeadRun.getT s) = obsY s.abs.heap.get?
  rw [e]
def nm0 : List Str := ["_wall", "CLOCK", "LETTERS", "LONGEST_NAME", "is_integer", "is_list", "is_name", "is_dish", "alike", "copied", "KitchenError", "BadDish", "BadWish", "BadStation", "NoDish", "Clash", "BadRow", "Round", "TooEarly", "BadTimes", "UnlikeHangings", "Unlike", "BadMinutes", "Overdue", "NotRunning", "TooSoon", "NothingBack", "EDGES", "is_bounds", "is_moment"]
def nm1 : List Str := ["is_wish", "is_station", "as_moment", "as_wish", "check_dish", "check_same", "way_up", "Hanging", "check_rows", "is_hook", "check_rounds", "round_from", "Book", "check_entries", "is_entry", "is_wait", "check_waits", "check_times", "check_hangings", "sum_ahead", "Meal", "check_dishes", "check_wishes", "check_stations", "Course", "opened", "due", "started_until", "is_running", "state_of"]
def nm2 : List Str := ["gone", "called", "put_in", "hung_at", "wished", "Evening", "_law_fresh", "_law_take", "_law_one", "_law_mix", "_law_same", "_law_names", "_law_refused", "_law_is_over", "_law_number"]
def nmL : List Str := nm0 ++ nm1 ++ nm2
theorem runX (w : World) : HandSHeadRun.RunEq RR (PySem.W.view RR.prog [86]) hkX obX 20000 nmL w := by
  intro os
  kernel_rfl
end K5
set_option Elab.async false
set_option linter.all false
set_option maxRecDepth 100000
set_option maxHeartbeats 2000000
namespace EnT
open PySem PySem.Spec PyProof.Rows L2
/-! enumerate over a tuple, as a walk of the hand layer -/
theorem newOver {u : Value} {cell : Obj} {G : Heap → Prop} (B : Begins u cell G) :
    Meets (Builtin.«enumerate.__new__» ⟨[.type "enumerate", u], []⟩) (fun _ R z => G z.heap ∧
      R (.ok (.ret (.ref (z.heap.push cell).objs.size)))
        { z with heap := (z.heap.push cell).push { cls := .type "enumerate", data := .fields #[.none, .bool false, .ref z.heap.objs.size, rawInt 0, .none, .none] } }) :=
  .of_wp fun P w A R z hz => by
    obtain ⟨g0, gs, dr, tk, os⟩ := z; obtain ⟨hG, hR⟩ := hz
    have below := sub_enumerate
    have step : ∀ {A' : Around} {E : Value → Shared → Prop} {Q : Value → Shared → Prop}, Q (.ref g0.objs.size) ⟨g0.push cell, gs, dr, tk, os⟩ → wpAny (model P w) A' (pyIter u) Q E ⟨g0, gs, dr, tk, os⟩ :=
      fun z => B.iter P w _ _ ⟨g0, gs, dr, tk, os⟩ _ hG z
    wp_walk using step
    refine wpAny_stack_any fun _ => wpAny_pure ?_
    split
    · rename_i c _ _ _ _ _
      cases (c == Value.type "enumerate") <;> (wp_walk using step; exact ⟨_, rfl, hR⟩)
    · wp_walk using step
      exact ⟨_, rfl, hR⟩
theorem made {P : Program} {w : World} {A : Around} {E : Value → Shared → Prop} {z : Shared} {u : Value} {cell : Obj} {G : Heap → Prop} {Q : Value → Shared → Prop} (B : Begins u cell G) (hG : G z.heap)
    (k : ∀ g, IsEnum g (z.heap.objs.size + 1) z.heap.objs.size 0 .none → g.get? z.heap.objs.size = some cell → (∀ b o, z.heap.get? b = some o → g.get? b = some o) → Q (.ref (z.heap.objs.size + 1)) { z with heap := g }) :
    wpAny (model P w) A (call (.type "enumerate") [u]) Q E z := by
  refine callType_new F.called_enumerate (by decide) (F.typeCall_enumerate_1 _) (F.newCall_enumerate_1 _) (fun o => F.args_object_init_2 o _) F.entry_enumerate_new (newOver B) ⟨hG, ?_⟩
  have size : (z.heap.push cell).objs.size = z.heap.objs.size + 1 := Heap.size_push ..
  show _ ∧ _
  rw [size]
  generalize hg : (z.heap.push cell).push { cls := .type "enumerate", data := .fields #[.none, .bool false, .ref z.heap.objs.size, rawInt 0, .none, .none] } = g
  have top : IsEnum g (z.heap.objs.size + 1) z.heap.objs.size 0 .none := by
    rw [← hg, ← size]
    exact Heap.get?_push_size _ rfl
  refine ⟨⟨_, top, rfl⟩, k g top ?_ fun b o e => ?_⟩
  · rw [← hg]
    exact Heap.get?_push_of_some _ (Heap.get?_push_size _ B.free)
  · rw [← hg]
    exact Heap.get?_push_of_some _ (Heap.get?_push_of_some _ e)
/-- the tuple at a as it stands at each turn, each item in a new pair -/
def Iet (K : PySem.W.Frag) (a : Addr) : It where
  go i H := ∃ (ys : List V) (y : V), SqT K H a ys ∧ ys[i]? = some y
  yld i H v H' := ∃ T y, v = .ref T ∧ H T = none ∧ H' = upd H T (.tup [.int (i : Nat), y]) ∧ ∀ ys, SqT K H a ys → ys[i]? = some y
  stop i H := ∃ ys : List V, SqT K H a ys ∧ ys.length = i
theorem turns {P : Program} {w : World} {K : PySem.W.Frag} {elts : List Expr} {kk : Nat} {tpos : Pos} (a e j : Addr) :
    Turn P w K (.Tuple elts kk tpos) (Iet K a) [e, j] e (fun i g => (∃ old, IsEnum g e j ((i : Nat) : Int) old) ∧ g.IsTupleIter j a i ∧ e ≠ j) where
  mem := by simp
  obj := fun i g st b hb => by
    obtain ⟨⟨old, he⟩, ⟨o, ho, _, hd⟩, _⟩ := st
    have two : b = e ∨ b = j := by simpa using hb
    rcases two with q | q <;> subst q
    · exact ⟨_, he, fun v z => nomatch z⟩
    · exact ⟨o, ho, fun v z => by rw [hd] at z; cases z⟩
  keep := fun i g g' st k => by
    obtain ⟨⟨old, he⟩, hj, hne⟩ := st
    exact ⟨⟨old, k e (by simp) _ he⟩, hj.at fun o q => k j (by simp) o q, hne⟩
  item := by
    intro X hP hw hK hc i pins s σ H E I hf st hg
    subst hP hw hK
    obtain ⟨⟨old, he⟩, hj, hne⟩ := st
    obtain ⟨ys, y, hq, hy⟩ := hg
    obtain ⟨its, rv, p, _⟩ := I.tuple hq
    obtain ⟨u, hu, ru⟩ := rv.get hy
    have ht : s.heap.IsTuple a its.toArray := p
    have haj : a ≠ j := fun z => by
      obtain ⟨o1, e1, c1, _⟩ := hj
      obtain ⟨o2, e2, c2, _⟩ := ht
      rw [z, e1] at e2
      cases e2
      rw [c1] at c2
      exact absurd (Value.type.inj c2) (by decide)
    have hae : e ≠ a := fun z => by
      obtain ⟨o2, e2, c2, _⟩ := ht
      rw [← z, he] at e2
      cases e2
      exact absurd (Value.type.inj c2) (by decide)
    have lt : i < its.toArray.size := by
      have := rv.length
      have h1 := (List.getElem?_eq_some_iff.mp hy).1
      rw [List.size_toArray]
      omega
    have hel : e < s.heap.objs.size := Heap.lt_size he
    have hjl : j < s.heap.objs.size := by obtain ⟨_, q, _⟩ := hj; exact Heap.lt_size q
    refine wpAny_pyNext_enum_itemD (Draws.tuple (show X.A.in1.handled = none from I.ok.hd hc) j a haj its.toArray) he ⟨hj, ht⟩ lt hne (by simp [hne, hae]) fun x g tk hx ho hs hT hsz hk => ?_
    refine ⟨_, rfl, wpAny_letOwnedTupleGo_enum (s := { s with heap := g, toks := tk + 1 }) ho fun g' he' sb => ?_⟩
    have eu : x = u := by
      have h1 : its.toArray[i]? = some x := hx
      have h2 : its.toArray[i]? = some u := by simpa using hu
      rw [h1] at h2
      exact Option.some.inj h2
    subst eu
    have hT' : g'.get? s.heap.objs.size = some { cls := .type "tuple", data := .seq #[.int i tk, x] } := (sb.2 _ (Nat.ne_of_gt hel)).trans hT
    have fresh : ObjOk X.prog X.w (upd H s.heap.objs.size (.tup [.int (i : Nat), y])) g' s.heap.objs.size (.tup [.int (i : Nat), y]) :=
      ⟨by show 2 ≤ sizeLine; decide, [.int i tk, x], .cons ⟨_, rfl⟩ (.cons ru .nil), ⟨_, hT', rfl, _, rfl⟩⟩
    have I1 : Inv X pins σ (upd H s.heap.objs.size (.tup [.int (i : Nat), y])) { s with heap := g', toks := tk + 1 } :=
      I.turnedNew (ch := [e, j]) (fun b o hb q => (sb.2 b (fun z => hb (by simp [z]))).trans (hk b o (fun z => hb (by simp [z])) (fun z => hb (by simp [z])) q)) hf (Nat.le_refl _) fresh
    refine ⟨.ref s.heap.objs.size, _, I1, rfl, ⟨_, y, rfl, I.hok.fresh (Nat.le_refl _), rfl, fun zs hz => by rw [I.tuple_inj hz hq]; exact hy⟩, ⟨⟨x, ?_⟩, hs.1.at fun o q => (sb.2 j (Ne.symm hne)).trans q, hne⟩, fun b hb => ?_⟩
    · have e1 : ((i + 1 : Nat) : Int) = (i : Int) + 1 := by omega
      rw [e1]; exact he'
    · have old2 : b < s.heap.objs.size := by
        have two : b = e ∨ b = j := by simpa using hb
        rcases two with q | q <;> (rw [q]; assumption)
      rw [upd_ne (Nat.ne_of_lt old2)]
      exact (hf b hb).1
  done := by
    intro X hP hw hK hc i pins s σ H E I hf st hg
    subst hP hw hK
    obtain ⟨⟨old, he⟩, hj, hne⟩ := st
    obtain ⟨ys, hq, hy⟩ := hg
    obtain ⟨its, rv, p, _⟩ := I.tuple hq
    obtain ⟨f0, f1, f2, f3, f4, f5⟩ := hf j (by simp)
    have ht : s.heap.IsTuple a its.toArray := p
    have haj : a ≠ j := fun z => by
      obtain ⟨o1, e1, c1, _⟩ := hj
      obtain ⟨o2, e2, c2, _⟩ := ht
      rw [z, e1] at e2
      cases e2
      rw [c1] at c2
      exact absurd (Value.type.inj c2) (by decide)
    have sz : its.toArray.size = i := by
      have := rv.length
      rw [List.size_toArray]
      omega
    have D := Draws.tuple (prog := X.prog) (w := X.w) (show X.A.in1.handled = none from I.ok.hd hc) j a haj its.toArray
    rw [sz] at D
    exact wpAny_pyNext_enum_endD D he ⟨hj, ht⟩ fun g eb => ⟨rfl, I.turned (t' := s.toks) (fun b o hb q => eb b o hb q) f0 f1 f3 f4 f5⟩
  self := fun A i s Q E st k => by
    obtain ⟨⟨_, he⟩, _⟩ := st
    exact wpAny_pyIter_enum he k
def iEnumT (K : PySem.W.Frag) (ta : TA) : TI := fun σ H R => ta σ H fun vs H1 => ∃ a ys, vs = [V.ref a] ∧ SqT K H1 a ys ∧ R (Iet K a) H1
theorem pi_enumT {X : Cx} {e : Expr} {ta : TA} {p pos tpos : Pos} {elts : List Expr} {kk : Nat} (gl : Gl X "enumerate") (free : X.mg "enumerate" = none) (ha : PA X [e] ta) (hs : starEach [e] X.env = [(false, eval e X.env)] := by rfl) :
    PI X (.Tuple elts kk tpos) (.Call (.Name "enumerate" p) [e] [] pos) (iEnumT X.K ta) := by
  refine ⟨fun pins s σ H R I h => ?_⟩
  refine Call_ (ld_blt I gl free boot_enumerate (PyProof.Rows.callWith_type1 (thn (ha.run pos pins s σ H _ I h) fun us s1 ⟨vs, H1, I1, r1, q1⟩ => ?_) hs rfl))
  obtain ⟨a, ys, ex, hq, q⟩ := q1
  subst ex
  cases r1 with
  | cons r rr =>
    cases rr
    cases r
    obtain ⟨its, rv, p', _⟩ := I1.tuple hq
    have ht : s1.heap.IsTuple a its.toArray := p'
    refine made (begins_tuple a its.toArray) ht fun g he hj hk => wpAny_pyIter_enum he ?_
    have I2 : Inv X pins σ H1 { s1 with heap := g } := I1.kept (t' := s1.toks) hk
    refine ⟨s1.heap.objs.size + 1, [s1.heap.objs.size + 1, s1.heap.objs.size], _, _, H1, rfl, I2, turns a (s1.heap.objs.size + 1) s1.heap.objs.size, ⟨⟨.none, he⟩, ⟨_, hj, rfl, rfl⟩, Nat.succ_ne_self _⟩, fun b hb => ?_, q⟩
    have hle : s1.heap.objs.size ≤ b := by
      have two : b = s1.heap.objs.size + 1 ∨ b = s1.heap.objs.size := by simpa using hb
      rcases two with z | z <;> rw [z]
      · exact Nat.le_add_right _ _
      · exact Nat.le_refl _
    exact I1.fpOk hle (I1.hok.fresh hle)
/-- one of two walks -/
theorem pi_or {X : Cx} {tg e : Expr} {t u : TI} (h : PI X tg e t) (k : PI X tg e u) : PI X tg e (fun σ H R => t σ H R ∨ u σ H R) :=
  ⟨fun pins s σ H R I q => q.elim (h.run pins s σ H R I) (k.run pins s σ H R I)⟩
theorem walk_enumT {K : PySem.W.Frag} {a : Addr} {xs : List V} : Walk (Iet K a) xs.length (fun H => SqT K H a xs) (YPair (fun i => some (.int (i : Nat))) (fun i => xs[i]?)) :=
  ⟨fun _ _ hi q => ⟨xs, _, q, List.getElem?_eq_getElem hi⟩, fun _ q => ⟨xs, q, rfl⟩, fun i H v H' _ q y => by
    obtain ⟨T, x, h1, h2, h3, h4⟩ := y
    exact ⟨T, _, x, h1, h2, h3, rfl, h4 xs q⟩⟩
end EnT
set_option Elab.async false
set_option linter.all false
set_option maxRecDepth 100000
set_option maxHeartbeats 2000000
/-! == and != of an instance whose class has an == of its own: any answer, any other thing -/
namespace Own
open PySem PySem.Spec PyProof.Rows L2
theorem tyIs_keeps {s s' : Shared} {u : Value} {T : String} (k : ∀ b o, s.heap.get? b = some o → s'.heap.get? b = some o) (h : s.TypeIs u T) : s'.TypeIs u T := by
  cases u <;> first | exact h | (obtain ⟨o, h1, h2⟩ := h; exact ⟨o, k _ _ h1, h2⟩)
theorem looks_ty {M : Model} {s : Shared} {u : Value} {T : String} (h : s.TypeIs u T) : PySem.W.Looks M s.heap (typeOf u) (.type T) := fun A Q E s' k q => wpAny_typeOf (tyIs_keeps k h) q
/-- what stands on the other side -/
inductive Oth (K : PySem.W.Frag) (H : Hp) (C : Addr) : V → Prop
  | ty {y : V} {T : String} (h : TyB K H y T) (n : PySem.W.notFirst K C (.type T) = true) : Oth K H C y
  | ins {b D dy : Addr} {gs : List (Str × V)} (h : H b = some (.ins D dy gs)) (n : PySem.W.notFirst K C (.ref D) = true) : Oth K H C (.ref b)
theorem Oth.looks {X : Cx} {pins : List (Addr × Obj)} {σ : L2.St} {H : Hp} {s : Shared} {C : Addr} {y : V} {v : Value} (I : L2.Inv X pins σ H s) (ry : L2.RelV y v) (o : Oth X.K H C y) :
    ∃ tb, PySem.W.Looks (model X.prog X.w) s.heap (typeOf v) tb ∧ PySem.W.notFirst X.K C tb = true := by
  cases o with
  | ty h n => exact ⟨_, looks_ty (h.is I ry), n⟩
  | ins h n =>
    cases (show v = Value.ref _ from ry)
    obtain ⟨mB, J, _⟩ := ins_get I.hok h
    obtain ⟨od, J, _⟩ := J.look
    exact ⟨_, J.type, n⟩
theorem non_declines {prog : Program} {w : World} {A : Around} {E : Value → Shared → Prop} {s : Shared} (x : Addr) : wpAny (model prog w) A (tryCompare .none "__eq__" (.ref x)) (fun r s' => r = none ∧ s' = s) E s :=
  wpAny_tryCompare_declines (show s.TypeIs .none "NoneType" from rfl) F.slot_NoneType_eq_refl (call_gives F.slot_NoneType_eq_refl rfl F.entry_NoneType_eq (F.args_NoneType_eq_2 _ _) (PySem.SeqAt.NoneType___eq___none_ref_0 x) ⟨rfl, rfl, rfl⟩)
theorem dict_declines {prog : Program} {w : World} {A : Around} {E : Value → Shared → Prop} {s : Shared} {K : PySem.W.Frag} {d x C : Addr} {ox : Obj} {od : Option Obj} (hT : s.TypeIs (.ref d) "dict") (X : K.In s.heap) (I : PySem.W.InstAt s.heap x ox C od) (hsub : PySem.W.subIn K (.ref C) (.type "dict") = some false) :
    wpAny (model prog w) A (tryCompare (.ref d) "__eq__" (.ref x)) (fun r s' => r = none ∧ s' = s) E s := by
  refine wpAny_tryCompare_declines hT PySem.F.slot_dict_eq_refl (wpAny_call (codeAny_call_builtin PySem.F.slot_dict_eq_refl.plain PySem.F.entry_dict_eq (PySem.F.slot_dict_eq_refl.check _ _ _ _ _ _ _ _ hT (PySem.F.args_dict_eq_2 _ _) ?_)))
  show wpAny _ _ (Builtin.Dict.dictSlotArgs "__eq__" ⟨[.ref d, .ref x], []⟩ >>= _) _ _ s
  refine wpAny_bind ?_
  unfold Builtin.Dict.dictSlotArgs
  refine wpAny_bind (wpAny_notOrdered_dict hT ?_)
  show wpAny _ _ (pure (Value.ref d, Value.ref x)) _ _ s
  refine wpAny_pure ?_
  unfold isInstance
  refine wpAny_bind (wpAny_bind (I.type.here ((PySem.W.looks_subIn X hsub).here ?_)))
  simp only [Bool.not_false, if_true]
  refine wpAny_bind (wpAny_rule (wpAny_bind (wpAny_pure (wpAny_pure ?_))))
  first
    | exact ⟨trivial, rfl, rfl⟩
    | exact ⟨trivial, trivial, rfl⟩
    | exact ⟨trivial, rfl⟩
    | simp
section
variable {X : Cx} {CX : CXT} {C f : Addr} {fd : FuncData} {ps : List Str} {n : Nat} {sp : Sp} {E : XK}
theorem own_call (F : FnOk X.prog X.w X.K X.mg X.base CX n f fd ps sp) (hb : L2.Binds X.K fd ps []) (hx : Passes CX X E) {A : Around} (hr : Room n A) (hfr : A.frames = X.A.frames)
    {pins : List (Addr × Obj)} {s : Shared} {σ : L2.St} {H : Hp} {x y : V} {u v : Value} {R : V → Hp → Prop} (I : L2.Inv X pins σ H s) (rx : L2.RelV x u) (ry : L2.RelV y v) (hsp : sp [x, y] H R E) :
    wpAny (model X.prog X.w) A (call (.ref f) [u, v]) (fun w s' => ∃ z H', L2.RelV z w ∧ L2.Inv X pins σ H' s' ∧ R z H') X.xe s := by
  have e0 : Env0 X.prog X.w X.K X.mg X.base A X.stack s H := by
    have e := I.env0
    exact ⟨by rw [hfr]; exact e.frames, e.mod, e.bs, e.bsz, e.funs, e.frf, e.hok, e.bare⟩
  have hl := F.len _ _ _ _ hsp
  have r2 : L2.Vals [x, y] [u, v] := .cons rx (.cons ry .nil)
  refine wpAny_call (codeAny_mono (F.run A X.stack s H ⟨[u, v], []⟩ [u, v] [x, y] R E hr e0 (by
    have := hb s [u, v] I.kIn (by simpa using hl)
    simpa using this) r2 hsp) fun r s' hq => ?_)
  cases r with
  | error e => exact hx pins σ H s e s' I hq
  | ok fl =>
    cases fl with
    | ret w =>
      obtain ⟨z, H', I', rz, q⟩ := I.after hq
      exact ⟨z, H', rz, I', q⟩
    | next => exact False.elim hq
    | brk => exact False.elim hq
    | cont => exact False.elim hq
/-- the reading of x == y: the own def tells a truth -/
def rOwn (K : PySem.W.Frag) (C : Addr) (sp : Sp) (E : XK) (neg : Bool) : R2 := fun x y H Q => ∃ a dx fs, x = .ref a ∧ H a = some (.ins C dx fs) ∧ Oth K H C y ∧ sp [x, y] H (fun v H' => ∃ b : Bool, v = .bl b ∧ Q (.bl (if neg then !b else b)) H') E
theorem op_eqOwn (F : FnOk X.prog X.w X.K X.mg X.base CX n f fd ps sp) (hs : PySem.W.findIn X.K (.ref C) "__eq__" = some (some (.ref f))) (hf : PySem.W.isFn X.K (.ref f) = true) (hb : L2.Binds X.K fd ps []) (hx : Passes CX X E) (hr : Room n X.A) :
    OpR X (compareOp .Eq) (rOwn X.K C sp E false) := by
  intro pins s σ H x y u v Q I rx ry ⟨a, dx, fs, ex, ha, ho, hsp⟩
  subst ex
  cases (show u = Value.ref a from rx)
  obtain ⟨mA, J, _⟩ := ins_get I.hok ha
  obtain ⟨od, J, _⟩ := J.look
  obtain ⟨m, hF⟩ := I.fr
  obtain ⟨tb, L, hn⟩ := ho.looks I ry
  show wpAny (model X.prog X.w) X.A (richCompare .Eq (.ref a) v) (EP X pins σ Q) X.xe s
  refine PySem.W.cmp_K (op := .Eq) (tb := tb) hr.units0 hF I.ok.mod.kin J L hn hs hf ?_
  refine wpAny_mono (own_call F hb hx hr rfl I (x := .ref a) rfl ry hsp) (fun w s' h => ?_) fun _ _ h => h
  obtain ⟨z, H', rz, I', b, ez, q⟩ := h
  subst ez
  cases (show w = Value.bool b from rz)
  exact ⟨.bl b, H', I', rfl, q⟩
set_option maxHeartbeats 200000 in
theorem entry_ne {prog : Program} {w : World} {A : Around} {E : Value → Shared → Prop} {s : Shared} {K : PySem.W.Frag} {x C f : Addr} {ox : Obj} {od : Option Obj} {b : Value} {Q : Fin → Shared → Prop} (hu : A.units < cLine) (X : K.In s.heap) (I : PySem.W.InstAt s.heap x ox C od)
    (hs : PySem.W.findIn K (.ref C) "__eq__" = some (some (.ref f))) (hf : PySem.W.isFn K (.ref f) = true) (h : wpAny (model prog w) A (call (.ref f) [.ref x, b]) (fun r s' => ∃ c, r = .bool c ∧ Q (.done (.ret (.bool (!c)))) s') E s) :
    wpAny (model prog w) A (Builtin.«object.__ne__» ⟨[.ref x, b], []⟩) Q E s := by
  unfold Builtin.«object.__ne__»
  refine wpAny_bind (wpAny_pure ?_)
  refine wpAny_bind (wpAny_cRoomFor hu ?_)
  refine wpAny_bind (PySem.W.ifBound_K X I hs hf (wpAny_mono h (fun r s' hr => ?_) fun _ _ e => e))
  obtain ⟨c, rfl, q⟩ := hr
  refine wpAny_bind (wpAny_truthy_bool ?_)
  exact wpAny_pure q
theorem ifBound_objNe {M : Model} {A : Around} {E : Value → Shared → Prop} {s : Shared} {K : PySem.W.Frag} {x C : Addr} {ox : Obj} {od : Option Obj} {args : List Value} {Q : Option Value → Shared → Prop} (X : K.In s.heap) (I : PySem.W.InstAt s.heap x ox C od) (hs : PySem.W.findIn K (.ref C) "__ne__" = some (some (.builtin "object.__ne__")))
    (h : wpAny M A (call (.builtin "object.__ne__") (.ref x :: args)) (fun v => Q (some v)) E s) : wpAny M A (callSpecialIfBound? (.ref x) "__ne__" args) Q E s := by
  simp only [callSpecialIfBound?, bindSpecialIfBound?]
  refine wpAny_holding (wpAny_bind (wpAny_bind (wpAny_bind (I.type.here ((PySem.W.looks_findIn X hs).here ?_)))))
  refine wpAny_bind (wpAny_askSetting (wpAny_ite ?_))
  have fin : wpAny M A (call (.builtin "object.__ne__") ([.ref x] ++ args) >>= fun v => pure (some v)) Q E s := wpAny_bind (wpAny_mono h (fun v s' h' => wpAny_pure h') fun _ _ h' => h')
  split
  · exact wpAny_bind (wpAny_of_eq (F.cmp_object.ne.bind _) (wpAny_pure (by exact fin)))
  · exact wpAny_tryCatch (wpAny_bind (wpAny_of_eq (F.cmp_object.ne.bind _) (wpAny_pure (by exact fin))))
theorem rc_ne {prog : Program} {w : World} {A : Around} {E : Value → Shared → Prop} {s : Shared} {K : PySem.W.Frag} {x C f : Addr} {ox : Obj} {od : Option Obj} {b tb : Value} {Q : Value → Shared → Prop} (hu : A.units + 1 < cLine) (X : K.In s.heap) (I : PySem.W.InstAt s.heap x ox C od)
    (hb : PySem.W.Looks (model prog w) s.heap (typeOf b) tb) (hn : PySem.W.notFirst K C tb = true) (hm : PySem.W.mroIn K C (.type "object") = some true) (hne : PySem.W.findIn K (.ref C) "__ne__" = some (some (.builtin "object.__ne__")))
    (hs : PySem.W.findIn K (.ref C) "__eq__" = some (some (.ref f))) (hf : PySem.W.isFn K (.ref f) = true) (h : wpAny (model prog w) A.in1 (call (.ref f) [.ref x, b]) (fun r s' => ∃ c, r = .bool c ∧ Q (.bool (!c)) s') E s) :
    wpAny (model prog w) A (richCompare .NotEq (.ref x) b) Q E s := by
  have one : wpAny (model prog w) A (tryCompare (.ref x) "__ne__" b) (fun r s' => ∃ v, r = some v ∧ Q v s') E s := by
    unfold tryCompare
    refine wpAny_bind (ifBound_objNe X I hne (wpAny_call (codeAny_call_builtin F.cmp_object.ne.plain F.cmpEntry_ne (PySem.W.check_slot F.cmpKind_ne F.cmpSplit_ne (I.type.andThen (PySem.W.looks_mroIn X hm)) (F.cmpArgs_ne _ _)
      (entry_ne (by show A.units + 1 < cLine; exact hu) X I hs hf (wpAny_mono h (fun r s' hr => ?_) fun _ _ e => e))))))
    obtain ⟨c, rfl, q⟩ := hr
    exact ⟨c, rfl, wpAny_pure ⟨_, rfl, q⟩⟩
  unfold richCompare
  simp only [oneThing_ref]
  refine wpAny_holding (wpAny_bind (wpAny_cRoomFor (by omega) ?_))
  refine wpAny_bind (I.type.here (wpAny_bind (hb.here ?_)))
  split
  · rename_i q
    have e : PySem.W.subIn K tb (.ref C) = some false := by
      rcases Bool.or_eq_true_iff.mp hn with e | e
      · rw [beq_iff_eq.mp e] at q; simp at q
      · exact beq_iff_eq.mp e
    refine wpAny_bind ((PySem.W.looks_subIn X e).here ?_)
    simp only [Bool.false_eq_true, if_false]
    refine wpAny_bind (wpAny_mono one (fun r s' z => ?_) fun _ _ e => e)
    obtain ⟨v, rfl, hq⟩ := z
    exact wpAny_pure hq
  · refine wpAny_bind (wpAny_pure ?_)
    simp only [Bool.false_eq_true, if_false]
    refine wpAny_bind (wpAny_mono one (fun r s' z => ?_) fun _ _ e => e)
    obtain ⟨v, rfl, hq⟩ := z
    exact wpAny_pure hq
theorem op_neOwn (F : FnOk X.prog X.w X.K X.mg X.base CX n f fd ps sp) (hne : PySem.W.findIn X.K (.ref C) "__ne__" = some (some (.builtin "object.__ne__"))) (hm : PySem.W.mroIn X.K C (.type "object") = some true)
    (hs : PySem.W.findIn X.K (.ref C) "__eq__" = some (some (.ref f))) (hf : PySem.W.isFn X.K (.ref f) = true) (hb : L2.Binds X.K fd ps []) (hx : Passes CX X E) (hr : Room (n + 1) X.A) :
    OpR X (compareOp .NotEq) (rOwn X.K C sp E true) := by
  intro pins s σ H x y u v Q I rx ry ⟨a, dx, fs, ex, ha, ho, hsp⟩
  subst ex
  cases (show u = Value.ref a from rx)
  obtain ⟨mA, J, _⟩ := ins_get I.hok ha
  obtain ⟨od, J, _⟩ := J.look
  obtain ⟨tb, L, hn⟩ := ho.looks I ry
  show wpAny (model X.prog X.w) X.A (richCompare .NotEq (.ref a) v) (EP X pins σ Q) X.xe s
  have un := hr.un
  refine rc_ne (by omega) I.kIn J L hn hm hne hs hf ?_
  refine wpAny_mono (own_call F hb hx hr.in1 rfl I (x := .ref a) rfl ry hsp) (fun w s' h => ?_) fun _ _ h => h
  obtain ⟨z, H', rz, I', b, ez, q⟩ := h
  subst ez
  cases (show w = Value.bool b from rz)
  exact ⟨b, rfl, .bl (!b), H', I', rfl, q⟩
/-- what is built in on the left declines, then the own == is asked -/
theorem rc_left {prog : Program} {w : World} {A : Around} {E : Value → Shared → Prop} {s : Shared} {K : PySem.W.Frag} {x C f : Addr} {ox : Obj} {od : Option Obj} {a : Value} {T : String} {Q : Value → Shared → Prop} (hu : A.units < cLine) (X : K.In s.heap) (I : PySem.W.InstAt s.heap x ox C od)
    (hT : s.TypeIs a T) (hsub : PySem.W.subIn K (.ref C) (.type T) = some false) (ho : oneThing? .Eq a (.ref x) = none)
    (one : wpAny (model prog w) A (tryCompare a "__eq__" (.ref x)) (fun r s' => r = none ∧ s' = s) E s)
    (hs : PySem.W.findIn K (.ref C) "__eq__" = some (some (.ref f))) (hf : PySem.W.isFn K (.ref f) = true) (h : wpAny (model prog w) A (call (.ref f) [.ref x, a]) (fun r s' => ∃ c, r = .bool c ∧ Q (.bool c) s') E s) :
    wpAny (model prog w) A (richCompare .Eq a (.ref x)) Q E s := by
  have two : wpAny (model prog w) A (tryCompare (.ref x) "__eq__" a) (fun r s' => ∃ v, r = some v ∧ Q v s') E s := by
    unfold tryCompare
    refine wpAny_bind (PySem.W.ifBound_K X I hs hf (wpAny_mono h (fun v s' hv => ?_) fun _ _ e => e))
    obtain ⟨c, rfl, q⟩ := hv
    exact wpAny_pure ⟨_, rfl, q⟩
  simp only [richCompare, cmpInfo_Eq, ho]
  refine wpAny_holding (wpAny_bind (wpAny_cRoomFor hu ?_))
  refine wpAny_bind (wpAny_typeOf hT ?_)
  refine wpAny_bind (I.type.here ?_)
  split
  · refine wpAny_bind ((PySem.W.looks_subIn X hsub).here ?_)
    simp only [Bool.false_eq_true, if_false, Bool.not_false, if_true]
    refine wpAny_bind (m := tryCompare a _ (.ref x)) (wpAny_mono one (fun r s1 z => ?_) fun _ _ e => e)
    obtain ⟨z1, z2⟩ := z
    subst z1
    subst z2
    refine wpAny_bind (m := tryCompare (.ref x) _ a) (wpAny_mono two (fun r s2 z => ?_) fun _ _ e => e)
    obtain ⟨v, rfl, q⟩ := z
    exact wpAny_pure q
  · rename_i q
    exact absurd (by simp) q
/-- None == x -/
def rNonL (C : Addr) (sp : Sp) (E : XK) : R2 := fun x y H Q => x = .non ∧ ∃ a dx fs, y = .ref a ∧ H a = some (.ins C dx fs) ∧ sp [y, .non] H (fun v H' => ∃ b : Bool, v = .bl b ∧ Q (.bl b) H') E
theorem op_eqNonL (F : FnOk X.prog X.w X.K X.mg X.base CX n f fd ps sp) (hsub : PySem.W.subIn X.K (.ref C) (.type "NoneType") = some false)
    (hs : PySem.W.findIn X.K (.ref C) "__eq__" = some (some (.ref f))) (hf : PySem.W.isFn X.K (.ref f) = true) (hb : L2.Binds X.K fd ps []) (hx : Passes CX X E) (hr : Room n X.A) :
    OpR X (compareOp .Eq) (rNonL C sp E) := by
  intro pins s σ H x y u v Q I rx ry ⟨ex, a, dx, fs, ey, ha, hsp⟩
  subst ex
  subst ey
  cases (show u = Value.none from rx)
  cases (show v = Value.ref a from ry)
  obtain ⟨mA, J, _⟩ := ins_get I.hok ha
  obtain ⟨od, J, _⟩ := J.look
  show wpAny (model X.prog X.w) X.A (richCompare .Eq .none (.ref a)) (EP X pins σ Q) X.xe s
  refine rc_left hr.units0 I.kIn J (show s.TypeIs .none "NoneType" from rfl) hsub rfl (non_declines a) hs hf ?_
  refine wpAny_mono (own_call F hb hx hr rfl I (x := .ref a) (y := .non) rfl rfl hsp) (fun w s' h => ?_) fun _ _ h => h
  obtain ⟨z, H', rz, I', b, ez, q⟩ := h
  subst ez
  cases (show w = Value.bool b from rz)
  exact ⟨b, rfl, .bl b, H', I', rfl, q⟩
/-- {..} == x -/
def rDctL (C : Addr) (sp : Sp) (E : XK) : R2 := fun x y H Q => ∃ d kvs a dx fs, x = .ref d ∧ H d = some (.dK kvs) ∧ y = .ref a ∧ H a = some (.ins C dx fs) ∧ sp [y, x] H (fun v H' => ∃ b : Bool, v = .bl b ∧ Q (.bl b) H') E
theorem op_eqDctL (F : FnOk X.prog X.w X.K X.mg X.base CX n f fd ps sp) (hsub : PySem.W.subIn X.K (.ref C) (.type "dict") = some false)
    (hs : PySem.W.findIn X.K (.ref C) "__eq__" = some (some (.ref f))) (hf : PySem.W.isFn X.K (.ref f) = true) (hb : L2.Binds X.K fd ps []) (hx : Passes CX X E) (hr : Room n X.A) :
    OpR X (compareOp .Eq) (rDctL C sp E) := by
  intro pins s σ H x y u v Q I rx ry ⟨d, kvs, a, dx, fs, ex, hd, ey, ha, hsp⟩
  subst ex
  subst ey
  cases (show u = Value.ref d from rx)
  cases (show v = Value.ref a from ry)
  obtain ⟨mA, J, _⟩ := ins_get I.hok ha
  obtain ⟨od, J, _⟩ := J.look
  show wpAny (model X.prog X.w) X.A (richCompare .Eq (.ref d) (.ref a)) (EP X pins σ Q) X.xe s
  have hT : s.TypeIs (.ref d) "dict" := TyB.is I (x := .ref d) rfl (.dK hd)
  refine rc_left hr.units0 I.kIn J hT hsub rfl (dict_declines hT I.kIn J hsub) hs hf ?_
  refine wpAny_mono (own_call F hb hx hr rfl I (x := .ref a) (y := .ref d) rfl rfl hsp) (fun w s' h => ?_) fun _ _ h => h
  obtain ⟨z, H', rz, I', b, ez, q⟩ := h
  subst ez
  cases (show w = Value.bool b from rz)
  exact ⟨b, rfl, .bl b, H', I', rfl, q⟩
end
/-! ### dicts of flat things: == of any answer -/
def eqKv (ks ls : List (Key × V)) : Bool := ks.all fun p => match valV ls p.1 with | some u => eqV p.2 u | none => false
theorem hits_flat {P : Program} {w : World} {A : Around} {s : Shared} {ls : List (Key × V)} {vb : List (Key × Value)} (rb : KV ls vb) (fl : ∀ k u, valV ls k = some u → flatV u = true) {ks : List (Key × V)} {va : List (Key × Value)}
    (ra : KV ks va) : (∀ p ∈ ks, flatV p.2 = true) → PySem.W.KeqHitsP P w A s vb va (eqKv ks ls) := by
  unfold KV at ra
  induction ra with
  | nil => intro _; exact .nil
  | @cons p q ps qs h t k =>
    intro hp
    obtain ⟨h1, h2⟩ := h
    have rr : RelO (valV ls p.1) (valueAt vb p.1) := rb.val p.1
    obtain ⟨key, v⟩ := q
    have h1' : p.1 = key := h1
    have rest := k fun p' hm => hp p' (List.mem_cons_of_mem _ hm)
    cases e : valV ls p.1 with
    | none =>
      rw [e] at rr
      have hn : valueAt vb key = none := by
        rw [← h1']
        cases hv : valueAt vb p.1 with
        | none => rfl
        | some z => rw [hv] at rr; exact rr.elim
      have hb : eqKv (p :: ps) ls = false := by unfold eqKv; rw [List.all_cons, e]; rfl
      rw [hb]
      exact .miss hn
    | some u =>
      rw [e] at rr
      obtain ⟨y, hy, ry⟩ := rr.some_of
      rw [h1'] at hy
      have hb : eqKv (p :: ps) ls = (eqV p.2 u && eqKv ps ls) := by unfold eqKv; rw [List.all_cons, e]
      rw [hb]
      exact .hit hy (eqAt_V h2 ry (hp p List.mem_cons_self) (fl _ _ e)).eqP rest
/-- the reading of a == b -/
def rEqDF : R2 := fun x y H Q => ∃ a b ks ls, x = .ref a ∧ y = .ref b ∧ H a = some (.dK ks) ∧ H b = some (.dK ls) ∧ (∀ p ∈ ks, flatV p.2 = true) ∧ (∀ k u, valV ls k = some u → flatV u = true) ∧ Q (.bl (ks.length == ls.length && eqKv ks ls)) H
theorem op_eqDF {X : Cx} (hu : X.A.units + 64 < cLine) : OpR X (compareOp .Eq) rEqDF := by
  intro pins s σ H x y v u Q I rx ry ⟨a, b, ks, ls, ex, ey, ha, hb, f1, f2, q⟩
  subst ex
  subst ey
  cases (show v = Value.ref a from rx)
  cases (show u = Value.ref b from ry)
  obtain ⟨_, ya, va, ra, da⟩ := (show ObjOk X.prog X.w H s.heap a (.dK ks) from I.hok a _ ha)
  obtain ⟨_, yb, vb, rb, db⟩ := (show ObjOk X.prog X.w H s.heap b (.dK ls) from I.hok b _ hb)
  have la : ks.length = va.length := by unfold KV at ra; exact ra.length
  have lb : ls.length = vb.length := by unfold KV at rb; exact rb.length
  refine PySem.W.rcP_dicts (knd := mixKind X.prog X.w) (r := eqKv ks ls) ya yb da db (by omega) (fun _ => hits_flat rb f2 ra f1) _ _ ?_
  rw [← la, ← lb]
  exact ⟨.bl _, H, I, rfl, q⟩
/-! ### list(d.values()) -/
theorem paired_ix {α β : Type} {R : α → β → Prop} : ∀ {xs : List α} {ys : List β}, xs.length = ys.length → (∀ (i : Nat) (y : β), ys[i]? = some y → ∃ x, xs[i]? = some x ∧ R x y) → Paired R xs ys
  | [], [], _, _ => .nil
  | x :: xs, y :: ys, h, k => by
    obtain ⟨x', e, r⟩ := k 0 y rfl
    cases e
    exact .cons r (paired_ix (Nat.succ.inj h) fun i z hz => k (i + 1) z hz)
  | [], _ :: _, h, _ => nomatch h
  | _ :: _, [], h, _ => nomatch h
def tListVals (td : TE) : TE := fun σ H Q => td σ H fun x H1 => ∃ a kvs, x = V.ref a ∧ H1 a = some (.dK kvs) ∧ ∀ p, H1 p = none → Q (.ref p) (upd H1 p (.lst (kvs.map (·.2))))
theorem pe_listVals {X : Cx} {o : Expr} {td : TE} {p pos apos mpos : Pos} (hc : X.calm = true) (hg : Gl X "list") (hm : X.mg "list" = none) (hd : PE X o td) (hbase : attributeBase o "values" X.env (eval o X.env) = eval o X.env := by rfl) (hline : (apos.endLine == mpos.line) = true := by rfl)
    (hse : starEach [Expr.Call (.Attribute o "values" apos) [] [] mpos] X.env = [(false, eval (Expr.Call (.Attribute o "values" apos) [] [] mpos) X.env)] := by rfl) :
    PE X (.Call (.Name "list" p) [.Call (.Attribute o "values" apos) [] [] mpos] [] pos) (tListVals td) := by
  refine ⟨fun pins s σ H Q I h => ?_⟩
  refine wpAny_Call_Name_kw (ld_blt I hg hm (u := .type "list") (by first | rfl | decide +kernel) ?_ (by first | decide +kernel | decide) (by first | decide +kernel | decide))
  rw [hse]
  refine PySem.callWith_type1 (wpAny_Call_method0_late hbase hline (thn (hd.run pins s σ H _ I h) fun v s1 ⟨x, H1, I1, r1, a, kvs, ex, ha, q⟩ => ?_))
  subst ex
  obtain rfl : v = Value.ref a := r1
  obtain ⟨hz, hsys, vs, rel, dof⟩ := dk_of I1.hok ha
  obtain ⟨ep, dat⟩ := dof.dictAt
  have dat' := dat
  obtain ⟨ob, es, ho, ex, hdat, hko, hpr, hnd⟩ := dat'
  refine ⟨"dict", "dict.values", F.plainAttrs_dict, F.slot_dict_values, F.type_dict_values, ⟨ob, ho, ex.1⟩, fun b e => ?_, Calls.callWith_builtin rfl (PySem.evalArgs_none ?_)⟩
  · cases e
    exact ⟨ob, ho, ex.2.1⟩
  refine call_meetsIn F.slot_dict_values ⟨ob, ho, ex.1⟩ F.entry_dict_values (F.args_dict_values_1 _) (meets_dict_values (mixKind X.prog X.w) a hsys) ⟨⟨vs, dof⟩, ?_⟩
  have k1 : ∀ b u, s1.heap.get? b = some u → (s1.heap.push { cls := .type "dict_values", data := .fields #[.ref a] }).get? b = some u := fun b u e => Heap.get?_push_of_some _ e
  have dat1 : (s1.heap.push { cls := .type "dict_values", data := .fields #[.ref a] }).DictAt (mixKind X.prog X.w) a vs ep := dat.keep k1
  have I2 : L2.Inv X pins σ H1 { s1 with heap := s1.heap.push { cls := .type "dict_values", data := .fields #[.ref a] } } := I1.kept (t' := s1.toks) k1
  have hlv : kvs.length = vs.length := by unfold KV at rel; exact rel.length
  refine PySem.W.kdl_call (s := { s1 with heap := s1.heap.push { cls := .type "dict_values", data := .fields #[.ref a] } }) (PySem.W.kdl_values (knd := mixKind X.prog X.w) (kvs := vs) (ep := ep) (r := s1.heap.objs.size) (d := a)) (I.ok.hd hc) ⟨⟨_, Heap.get?_push_size _ rfl, rfl, rfl⟩, dat1⟩ (by rw [← hlv]; exact hz) fun h' tk acc c' hk hD hacc => ?_
  have hv : L2.Vals (kvs.map (·.2)) acc.toList := by
    refine paired_ix (by rw [List.length_map, Array.length_toList]; exact hlv.trans hacc.1.symm) fun i v e => ?_
    obtain ⟨k, hk2⟩ := hacc.2 i v (by rw [← Array.getElem?_toList]; exact e)
    obtain ⟨x, h1, h2⟩ := KV.at' rel hk2
    exact ⟨x, by rw [List.getElem?_map, h1] <;> rfl, h2⟩
  refine ⟨.ref _, upd H1 _ (.lst (kvs.map (·.2))), I2.laid (t' := tk) hk (Nat.le_refl _)
    (show ObjOk X.prog X.w _ _ _ (.lst (kvs.map (·.2))) from ⟨by rw [List.length_map]; exact hz, acc.toList, c', hv, by rw [Array.toArray_toList]; exact hD⟩), rfl, q _ (I2.hok.fresh (Nat.le_refl _))⟩
end Own
set_option Elab.async false
set_option linter.all false
set_option maxRecDepth 100000
set_option maxHeartbeats 2000000
/-! x in d.values(); iter(d); what is walked of an instance whose own __iter__ returns iter(d) -/
namespace Own
open PySem PySem.Spec PyProof.Rows L2
/-! ### d.values() as a value, and x in it -/
def VvO (d v : Addr) : HO := .ext fun h => h.IsValuesView v d
theorem mt_values {X : Cx} : MtR X "dict.values" (fun x vs H Q => ∃ (d : Addr) (kvs : List (Key × V)), x = .ref d ∧ vs = [] ∧ H d = some (.dK kvs) ∧ ∀ v, H v = none → Q (.ref v) (upd H v (VvO d v))) := by
  intro pins s σ H x xs v us Q I rx rv ⟨d, kvs, ex, e0, hd, q⟩
  subst ex
  subst e0
  cases rv
  cases (show v = Value.ref d from rx)
  obtain ⟨hz, hsys, vs, rel, dof⟩ := dk_of I.hok hd
  refine call_meetsIn F.slot_dict_values dof.typeIs F.entry_dict_values (F.args_dict_values_1 _) (meets_dict_values (mixKind X.prog X.w) d hsys) ⟨⟨vs, dof⟩, ?_⟩
  have hg : (s.heap.push { cls := .type "dict_values", data := .fields #[.ref d] }).get? s.heap.objs.size = some { cls := .type "dict_values", data := .fields #[.ref d] } := Heap.get?_push_size _ rfl
  refine ⟨.ref s.heap.objs.size, upd H _ (VvO d _), I.laid (t' := s.toks) (fun b u e => Heap.get?_push_of_some _ e) (Nat.le_refl _) ?_, rfl, q _ (I.hok.fresh (Nat.le_refl _))⟩
  exact ⟨⟨_, hg, rfl, rfl⟩, ⟨_, hg⟩, fun h1 h2 ⟨o, e, r⟩ k => ⟨o, k _ e, r⟩⟩
theorem entry_citer : entryFor table "proto.contains_iter" = some Builtin.«proto.contains_iter» := entryFor_of_fast (by kernel_rfl)
theorem plain_citer : plainId "proto.contains_iter" = true := by decide +kernel
theorem vals_noc : typeLookup (.type "dict_values") "__contains__" = pure none := by rw [typeLookup_type, builtinLookup_eq_fast]; kernel_rfl
section
variable {prog : Program} {w : World} {A : Around} {I : Addr} {fp wr : List Addr} {vs : List Value} {St : Nat → Heap → Prop}
theorem citer_loop {R : Result → Shared → Prop} (W : Walks prog w A.in1 I fp wr vs.length (fun i v => vs[i]? = some v) St) (x : Value) (r : Value → Bool) (heq : ∀ v ∈ vs, ∀ s, SeqAt.EqAt A.in1 s v x (r v)) :
    ∀ (k i : Nat) (s : Shared), vs.length - i = k → i ≤ vs.length → St i s.heap →
    (∀ h' tk, (∀ b o, b ∉ wr → s.heap.get? b = some o → h'.get? b = some o) → R (.ok (.ret (.bool ((vs.drop i).any r)))) { s with heap := h', toks := tk }) →
    codeAny (model prog w) A (.builtin "proto.contains_iter" ⟨[.ref I, x], []⟩) R s := by
  intro k
  induction k with
  | zero =>
    intro i s hk hi hst hR
    have e : i = vs.length := by omega
    subst e
    refine codeAny_builtin entry_citer ?_
    rw [Around.under_plainId plain_citer _]
    show wpAny _ A.in1 (pyNext (.ref I) >>= _) _ _ s
    refine wpAny_bind (W.done s _ _ hst fun h' tk hm => ?_)
    have q := hR h' tk hm
    rw [List.drop_length] at q
    exact wpAny_bind (wpAny_rule (wpAny_pure q))
  | succ k ih =>
    intro i s hk hi hst hR
    have hlt : i < vs.length := by omega
    refine codeAny_builtin entry_citer ?_
    rw [Around.under_plainId plain_citer _]
    show wpAny _ A.in1 (pyNext (.ref I) >>= _) _ _ s
    refine wpAny_bind (W.item i s _ _ hlt hst fun v h' tk hP hst' hm => ?_)
    have hv : vs[i] = v := by rw [List.getElem?_eq_getElem hlt] at hP; exact Option.some.inj hP
    show wpAny _ A.in1 (eqBool v x >>= _) _ _ _
    refine wpAny_bind (heq v (List.mem_of_getElem? hP) _ _ _ _ _ ?_)
    have ed : (vs.drop i).any r = (r v || (vs.drop (i + 1)).any r) := by rw [List.drop_eq_getElem_cons hlt, List.any_cons, hv]
    cases hr : r v with
    | true =>
      rw [ed, hr, Bool.true_or] at hR
      refine wpAny_bind (wpAny_rule (wpAny_pure (hR h' tk hm)))
    | false =>
      rw [ed, hr, Bool.false_or] at hR
      exact wpAny_pure ⟨plainId_quiet plain_citer _, ih (i + 1) { s with heap := h', toks := tk } (by omega) hlt hst' fun h2 tk2 hm2 => hR h2 tk2 fun b o nb e => hm2 b o nb (hm b o nb e)⟩
end
def rInVals (K : PySem.W.Frag) : R2 := fun x y H Q => ∃ v d kvs, y = .ref v ∧ H v = some (VvO d v) ∧ Rd H d (.dK kvs) ∧ flatV x = true ∧ (kvs.map (·.2)).all flatV = true ∧ Q (.bl (inV x (kvs.map (·.2)))) H
theorem op_inVals {X : Cx} (hc : X.calm = true) : OpR X (compareOp .In) (rInVals X.K) := by
  intro pins s σ H x y v u Q I rx ry ⟨va, d, kvs, ey, hv, hd, fx, fs, q⟩
  subst ey
  cases (show u = Value.ref va from ry)
  have view : s.heap.IsValuesView va d := (show ObjOk X.prog X.w H s.heap va (VvO d va) from I.hok va _ hv).1
  obtain ⟨hz, hsys, vs, rel, dof⟩ := dk_rd I.hok hd
  obtain ⟨ep, dat⟩ := dof.dictAt
  have hT := view.typeIs
  have hlv : kvs.length = vs.length := by unfold KV at rel; exact rel.length
  have hvals : Vals (kvs.map (·.2)) (vs.map (·.2)) := paired_ix (by rw [List.length_map, List.length_map]; exact hlv) fun i z e => by
    rw [List.getElem?_map] at e
    cases e2 : vs[i]? with
    | none => rw [e2] at e; cases e
    | some p =>
      rw [e2] at e
      obtain ⟨y, h1, h2⟩ := KV.at' rel (i := i) (k := p.1) (v := p.2) e2
      obtain rfl : p.2 = z := Option.some.inj e
      exact ⟨y, by rw [List.getElem?_map, h1]; rfl, h2⟩
  show wpAny (model X.prog X.w) X.A ((contains (.ref va) v) >>= fun b => pure (Value.bool b)) (EP X pins σ Q) X.xe s
  refine wpAny_bind ?_
  unfold contains
  refine wpAny_holding ?_
  have e0 : stdlibNamesSay? (.ref va) v = none := by
    first | rfl | (cases v <;> rfl)
  simp only [e0]
  refine wpAny_bind (wpAny_specialOf hT vals_noc ?_)
  refine wpAny_ite_split (fun hab => absurd hab (by decide)) (fun _ => ?_)
  unfold callSpecialUnlessNone?
  refine wpAny_bind (wpAny_bind (wpAny_specialOf hT vals_noc ?_))
  refine wpAny_pure ?_
  refine wpAny_bind (wpAny_rule ?_)
  refine wpAny_bind (wpAny_tryCatch (wpAny_pyIter_values (knd := mixKind X.prog X.w) view dat ?_))
  have kp : ∀ b o, s.heap.get? b = some o → (s.heap.push { cls := .type "dict_valueiterator", data := .fields #[.ref d, .int 0 0, .int vs.length 0, .int ep 0] }).get? b = some o := fun b o e => Heap.get?_push_of_some _ e
  have hit : (s.heap.push { cls := .type "dict_valueiterator", data := .fields #[.ref d, .int 0 0, .int vs.length 0, .int ep 0] }).IsValIter s.heap.objs.size d 0 vs.length ep := ⟨_, Heap.get?_push_size _ rfl, rfl, rfl⟩
  have ne : d ≠ s.heap.objs.size := Nat.ne_of_lt dat.lt_size
  have W := Walks.dictValues (prog := X.prog) (w := X.w) (A := X.A.in1.in1) (knd := mixKind X.prog X.w) (I.ok.hd hc) s.heap.objs.size d ne vs ep
  have ln : (vs.map (·.2)).length = vs.length := List.length_map ..
  have W2 : Walks X.prog X.w X.A.in1 s.heap.objs.size [s.heap.objs.size, d] [s.heap.objs.size] (vs.map (·.2)).length (fun i v => (vs.map (·.2))[i]? = some v) (fun i h => h.IsValIter s.heap.objs.size d i vs.length ep ∧ h.DictAt (mixKind X.prog X.w) d vs ep) :=
    ⟨W.of_in1.sub, W.of_in1.frame, fun i s Q E hi st hQ => W.of_in1.item i s Q E (by rw [ln] at hi; exact hi) st fun z h' tk hP => hQ z h' tk (by
      obtain ⟨k, e⟩ := hP
      rw [List.getElem?_map, e]
      rfl), fun s Q E st hQ => W.of_in1.done s Q E (by rw [ln] at st; exact st) hQ, W.of_in1.self⟩
  refine wpAny_bind (wpAny_runValue (citer_loop W2 v (eqU x) (fun z hz s' => mem_eqAt rx ‹_› hvals fs z hz) _ 0 { s with heap := _ } rfl (Nat.zero_le _) ⟨hit, dat.push _⟩ fun h' tk hm => ?_))
  have kp2 : ∀ b o, s.heap.get? b = some o → h'.get? b = some o := fun b o e => hm b o (fun z => by
    rw [List.mem_singleton.mp z] at e
    exact Nat.lt_irrefl _ (Heap.lt_size e)) (kp b o e)
  have fin : wpAny (model X.prog X.w) X.A (pure (Value.bool (inV x (kvs.map (·.2))))) (EP X pins σ Q) X.xe { s with heap := h', toks := tk } := wpAny_pure ⟨.bl _, H, I.kept (t' := tk) kp2, rfl, q⟩
  rw [List.drop_zero, any_eqU hvals fs]
  exact wpAny_pure fin
theorem inValsOf {X : Cx} {K : PySem.W.Frag} (h : X.K = K) (hc : X.calm = true) : OpR X (compareOp .In) (rInVals K) := h ▸ op_inVals hc
theorem bm0Of {X : Cx} {K : PySem.W.Frag} (h : X.K = K) {T id : String} {name : Str} {o : Expr} {to : TE} {r : V → List V → Hp → VK → Prop} {apos cpos : Pos} (pa : PlainAttrs T) (slot : Slot T name id) (hty : typeOf (.builtin id) = pure (.type "method_descriptor")) (hm : MtR X id r) (ho : PE X o to)
    (hbase : attributeBase o name X.env (eval o X.env) = eval o X.env := by rfl) (hline : (apos.endLine == cpos.line) = true := by rfl) : PE X (.Call (.Attribute o name apos) [] [] cpos) (tBM0 K T r to) := h ▸ pe_bm0 pa slot hty hm ho hbase hline
end Own
set_option Elab.async false
set_option linter.all false
set_option maxRecDepth 100000
set_option maxHeartbeats 2000000
/-! iter(d); what is walked of an instance whose own __iter__ returns iter(d) -/
namespace Own
open PySem PySem.Spec PyProof.Rows L2
/-! ### a base as large as the heap of a call -/
def padTo (h : Heap) (n : Nat) : Heap := { h with objs := h.objs ++ Array.replicate (n - h.objs.size) { cls := .none, data := .freed } }
theorem padTo_get {h : Heap} {n : Nat} {b : Addr} : (padTo h n).get? b = h.get? b := by
  unfold padTo Heap.get?
  rcases Nat.lt_or_ge b h.objs.size with lt | ge
  · rw [Array.getElem?_append_left lt]
  · rw [Array.getElem?_append_right ge, Array.getElem?_eq_none ge]
    rcases Nat.lt_or_ge (b - h.objs.size) (n - h.objs.size) with l2 | g2
    · rw [Array.getElem?_replicate, if_pos l2]
    · rw [Array.getElem?_replicate, if_neg (Nat.not_lt.mpr g2)]
theorem padTo_size {h : Heap} {n : Nat} (hn : h.objs.size ≤ n) : (padTo h n).objs.size = n := by
  unfold padTo
  simp only [Array.size_append, Array.size_replicate]
  omega
theorem padTo_ns {h : Heap} {n : Nat} {a : Addr} {m : Str → Option Value} (x : h.Ns a m) : (padTo h n).Ns a m := x.keeps fun b o e => padTo_get.trans e
theorem padTo_mod {K : PySem.W.Frag} {mg : Str → Option Value} {h : Heap} {n : Nat} (M : Mod K mg h) : Mod K mg (padTo h n) :=
  ⟨M.kin.keeps fun b o e => padTo_get.trans e, padTo_ns M.glob, M.blt.imp fun mb z => ⟨padTo_ns z.1, z.2⟩, M.nolimit.imp fun mc z => ⟨padTo_ns z.1, z.2⟩⟩
theorem padTo_frames {h base : Heap} {n : Nat} : ∀ {l : List Env}, h.FunFrames base l → h.FunFrames (padTo base n) l
  | [], _ => trivial
  | env :: rest, ⟨hk, ⟨L, o, hf, hn, ho, hd⟩, hr⟩ => ⟨hk, ⟨L, o, hf, padTo_get.trans hn, ho, hd⟩, padTo_frames hr⟩
section
variable {X : Cx} {pins : List (Addr × Obj)} {σ : L2.St} {H : Hp} {s : Shared}
theorem env_pad {A1 : Around} (hf : A1.frames = X.A.frames) (I : L2.Inv X pins σ H s) : Env0 X.prog X.w X.K X.mg (padTo X.base s.heap.objs.size) A1 X.stack s H := by
  have e := I.env0
  exact ⟨hf.trans e.frames, padTo_mod e.mod, fun b o z => e.bs b o (padTo_get.symm.trans z), by rw [padTo_size e.bsz]; exact Nat.le_refl _, padTo_frames e.funs, e.frf, e.hok, e.bare⟩
end
/-! ### iter(d) -/
def KiO (d : Addr) (od : Obj) (it : Addr) : HO := .ext fun h => ∃ es ep, od.data = .dict es ep ∧ h.IsKeyIter it d 0 es.size ep
def rIterD (n : Nat) : List V → Hp → VK → Prop := fun xs H Q => ∃ (d : Addr) (od : Obj) (kvs : List (Key × V)), xs = [.ref d] ∧ H d = some (.frz od (.dK kvs)) ∧ ∀ it, H it = none → n ≤ it → Q (.ref it) (upd H it (KiO d od it))
theorem call_iterD {X : Cx} : CallR X (.builtin "iter") (rIterD X.base.objs.size) := by
  intro pins s σ H xs us Q I r ⟨d, od, kvs, ex, hd, q⟩
  subst ex
  obtain rfl := Vals.ref1 r
  obtain ⟨hs, hgd, hx, es, ep, vs, hdt, hsz, kv, hm⟩ := I.frzK hd
  refine Calls.call_function_entry (by decide +kernel) (by decide +kernel) PySem.W.kdk_entry_iter (PySem.W.kdk_args_iter _) ?_
  unfold Builtin.«iter»
  refine wpAny_bind (m := someArgs "iter" 1 2 _) (wpAny_of_eq (a := [Value.ref d]) (by first | rfl | kernel_rfl!) ?_)
  show wpAny _ _ (pyIter (.ref d) >>= fun z => ret z) _ _ s
  refine wpAny_bind (iter_keys hs hgd hx hdt ?_)
  have hg : (s.heap.push { cls := .type "dict_keyiterator", data := .fields #[.ref d, .int 0 0, .int es.size 0, .int ep 0] }).get? s.heap.objs.size = some { cls := .type "dict_keyiterator", data := .fields #[.ref d, .int 0 0, .int es.size 0, .int ep 0] } := Heap.get?_push_size _ rfl
  refine wpAny_pure ⟨_, rfl, .ref s.heap.objs.size, upd H _ (KiO d od _), I.laid (t' := s.toks) (fun b u e => Heap.get?_push_of_some _ e) (Nat.le_refl _) ?_, rfl, q _ (I.hok.fresh (Nat.le_refl _)) (Nat.le_trans I.ok.bsz I.sz)⟩
  exact ⟨⟨es, ep, hdt, ⟨_, hg, rfl, rfl⟩⟩, ⟨_, hg⟩, fun h1 h2 ⟨es, ep, e, o, e1, r⟩ k => ⟨es, ep, e, o, k _ e1, r⟩⟩
/-- what __iter__ of the own class tells: an iterator over a dict's keys -/
def ItTold (R : It → Hp → Prop) (m : Nat) : VK := fun v H2 => ∃ it d od kvs, v = V.ref it ∧ H2 it = some (KiO d od it) ∧ H2 d = some (.frz od (.dK kvs)) ∧ m ≤ it ∧ R (Itk d od kvs) (ItX.dropH H2 it)
def iOwn (C : Addr) (sp : Nat → Sp) (E : XK) (te : TE) : TI := fun σ H R => te σ H fun x H1 => ∃ a dx fs, x = V.ref a ∧ H1 a = some (.ins C dx fs) ∧ ∀ m, sp m [x] H1 (ItTold R m) E
section
variable {X : Cx} {CX : CXT} {C f : Addr} {fd : FuncData} {ps : List Str} {n : Nat} {sp : Nat → Sp} {E : XK}
theorem own_it (F : ∀ base, FnOk X.prog X.w X.K X.mg base CX n f fd ps (sp base.objs.size)) (hb : L2.Binds X.K fd ps []) (hx : Passes CX X E) {A : Around} (hr : Room n A) (hfr : A.frames = X.A.frames)
    (hs : PySem.W.findIn X.K (.ref C) "__iter__" = some (some (.ref f))) (hf : PySem.W.isFn X.K (.ref f) = true)
    {pins : List (Addr × Obj)} {s : Shared} {σ : L2.St} {H : Hp} {a dx : Addr} {fs : List (Str × V)} {T : Nat → VK} (hT : ∀ m v H2, T m v H2 → ∃ it d od, v = V.ref it ∧ H2 it = some (KiO d od it)) (I : L2.Inv X pins σ H s) (ha : H a = some (.ins C dx fs)) (hsp : ∀ m, sp m [.ref a] H (T m) E) :
    wpAny (model X.prog X.w) A (pyIter (.ref a)) (fun u s' => ∃ it H2, u = .ref it ∧ L2.Inv X pins σ H2 s' ∧ T s.heap.objs.size (.ref it) H2) X.xe s := by
  obtain ⟨mA, J, _⟩ := ins_get I.hok ha
  obtain ⟨od0, J, _⟩ := J.look
  obtain ⟨m, hF⟩ := I.fr
  refine PySem.W.owit_iter hF I.ok.mod.kin J hs hf ?_
  have e0 := env_pad hfr I
  have hsp := hsp (padTo X.base s.heap.objs.size).objs.size
  have F := F (padTo X.base s.heap.objs.size)
  have hl := F.len _ _ _ _ hsp
  have r2 : L2.Vals [V.ref a] [Value.ref a] := .cons rfl .nil
  refine wpAny_call (codeAny_mono (F.run A X.stack s H ⟨[.ref a], []⟩ [.ref a] [.ref a] _ E hr e0 (by
    have := hb s [.ref a] I.kIn (by simpa using hl)
    simpa using this) r2 hsp) fun r s' hq => ?_)
  rw [padTo_size (Nat.le_trans I.ok.bsz I.sz)] at hq
  cases r with
  | error e => exact hx pins σ H s e s' I hq
  | ok fl =>
    cases fl with
    | ret u =>
      obtain ⟨v, H2, I2, rv, ht⟩ := I.after hq
      obtain ⟨it, d, od, ev, h1⟩ := hT _ _ _ ht
      subst ev
      cases (show u = Value.ref it from rv)
      have hk : ∃ es ep, od.data = .dict es ep ∧ s'.heap.IsKeyIter it d 0 es.size ep := (show ObjOk X.prog X.w H2 s'.heap it (KiO d od it) from I2.hok it _ h1).1
      obtain ⟨es, ep, _, hk⟩ := hk
      show PySem.W.OwitIt _ _ _ _ _ _
      unfold PySem.W.OwitIt
      refine wpAny_specialOf hk.typeIs PySem.F.slot_dict_keyiterator_next.lookup ?_
      exact ⟨it, H2, rfl, I2, ht⟩
    | next => exact False.elim hq
    | brk => exact False.elim hq
    | cont => exact False.elim hq
theorem pi_own {tg e : Expr} {te : TE} (F : ∀ base, FnOk X.prog X.w X.K X.mg base CX n f fd ps (sp base.objs.size)) (hb : L2.Binds X.K fd ps []) (hx : Passes CX X E) (hr : Room n X.A)
    (hs : PySem.W.findIn X.K (.ref C) "__iter__" = some (some (.ref f))) (hf : PySem.W.isFn X.K (.ref f) = true) (he : PE X e te) : PI X tg e (iOwn C sp E te) := by
  refine ⟨fun pins s σ H R I h => ?_⟩
  refine thn (he.run pins s σ H _ I h) fun v s1 ⟨x, H1, I1, r1, a, dx, fs, ex, ha, hsp⟩ => ?_
  subst ex
  cases (show v = Value.ref a from r1)
  refine wpAny_mono (own_it F hb hx hr rfl hs hf (fun m v H2 ⟨it, d, od, kvs, e1, e2, _⟩ => ⟨it, d, od, e1, e2⟩) I1 ha hsp) (fun u s2 h2 => ?_) fun _ _ z => z
  obtain ⟨it0, H2, eu, I2, it, d, od, kvs, e0, hi, hd, hz, hR⟩ := h2
  have e9 : it = it0 := by cases e0; rfl
  subst e9
  have hz := Nat.le_trans I1.sz hz
  obtain ⟨es, ep, hod, hk⟩ := (show ObjOk X.prog X.w H2 s2.heap it (KiO d od it) from I2.hok it _ hi).1
  obtain ⟨_, _, _, es2, ep2, vs, hdt, hsz, kv, hm⟩ := I2.frzK hd
  obtain ⟨e1, e2⟩ := dict_ep hod hdt
  subst e1
  rw [hsz] at hk
  refine ⟨it, [it], _, _, _, eu, ItX.inv_drop I2 hi, turn_keys it hod, hk, fun b hb => ?_, hR⟩
  rw [List.mem_singleton.mp hb]
  exact ItX.inv_fp I2 hi hz
/-- the keys fill a list -/
theorem key_loop {pins : List (Addr × Obj)} {σ : L2.St} {A : Around} {Rs : Result → Shared → Prop} {S d it : Addr} {od : Obj} {kvs : List (Key × V)} {ep : Nat} {es : Array DictEntry} (hh : A.handled = none) (hod : od.data = .dict es ep) (hz : kvs.length ≤ sizeLine) (hS : S ≠ it) (hSd : S ≠ d)
    : ∀ (k i : Nat) (H : Hp) (s : Shared), kvs.length - i = k → i ≤ kvs.length → L2.Inv X pins σ H s → FpOk X pins H it → H d = some (.frz od (.dK kvs)) → H S = some (.lst ((kvs.take i).map fun p => kV p.1)) → s.heap.IsKeyIter it d i kvs.length ep →
      (∀ s', L2.Inv X pins σ (upd H S (.lst (kvs.map fun p => kV p.1))) s' → Rs (.ok (.ret .none)) s') →
      codeAny (model X.prog X.w) A (.builtin "list.extend.loop" ⟨[.ref S, .ref it, .none], []⟩) Rs s := by
  intro k
  induction k with
  | zero =>
    intro i H s hk hi I fp hd hl st hR
    have e : i = kvs.length := by omega
    subst e
    obtain ⟨f0, f1, f2, f3, f4, f5⟩ := fp
    obtain ⟨_, hgd, _, es2, ep2, vs, hdt, hsz, kv, hm⟩ := I.frzK hd
    obtain ⟨e1, e2⟩ := dict_ep hod hdt
    subst e1
    subst e2
    refine codeAny_builtin PySem.F.entry_extend_loop ?_
    rw [Around.under_plainId PySem.F.plain_extend_loop _]
    show wpAny _ A.in1 (pyNext (.ref it) >>= _) _ _ s
    refine wpAny_bind (next_key_end hh st hgd hdt hsz (Nat.le_refl _) fun h' eb => ?_)
    have I1 := I.turned (t' := s.toks) (fun b o hb e => eb b o hb e) f0 f1 f3 f4 f5
    rw [List.take_length] at hl
    refine wpAny_pure (hR _ ?_)
    rw [show upd H S (.lst (kvs.map fun p => kV p.1)) = H from by
      funext b
      by_cases hb : b = S
      · rw [hb, upd_same, hl]
      · rw [upd_ne hb]]
    exact I1
  | succ k ih =>
    intro i H s hk hi I fp hd hl st hR
    have hlt : i < kvs.length := by omega
    obtain ⟨f0, f1, f2, f3, f4, f5⟩ := fp
    obtain ⟨_, hgd, _, es2, ep2, vs, hdt, hsz, kv, hm⟩ := I.frzK hd
    obtain ⟨e1, e2⟩ := dict_ep hod hdt
    subst e1
    subst e2
    have hlv : kvs.length = vs.length := Paired.length kv
    obtain ⟨u, hu, ru⟩ := kv_get kv (show kvs[i]? = some (kvs[i].1, kvs[i].2) from List.getElem?_eq_getElem hlt)
    refine codeAny_builtin PySem.F.entry_extend_loop ?_
    rw [Around.under_plainId PySem.F.plain_extend_loop _]
    show wpAny _ A.in1 (pyNext (.ref it) >>= _) _ _ s
    rw [hlv] at st
    refine wpAny_bind (wpAny_pyNext_dict_item st hm hu fun key h' hkey st' sb => ?_)
    have I1 : L2.Inv X pins σ H { s with heap := h' } := I.turned (t' := s.toks) (fun b ob hb e => (sb.2 b hb).trans e) f0 f1 f3 f4 f5
    obtain ⟨z, its, cc, r2, hln, e⟩ := I1.lstM hl
    have lt2 : its.length = i := by rw [← hln, List.length_map, List.length_take]; omega
    show wpAny _ A.in1 (updateSeq S (·.push key) >>= _) _ _ _
    have et : (kvs.take (i + 1)).map (fun p => kV p.1) = (kvs.take i).map (fun p => kV p.1) ++ [kV kvs[i].1] := by rw [List.take_succ, List.getElem?_eq_getElem hlt, List.map_append]; rfl
    refine wpAny_bind (wpAny_updateSeq e rfl (wpAny_pure ⟨plainId_quiet PySem.F.plain_extend_loop _, ?_⟩) (by rw [List.size_toArray]; omega) (by show (its.toArray.push key).size ≤ sizeLine + 1; rw [Array.size_push, List.size_toArray]; omega))
    have I3 := I1.lset (f := (·.push key)) (its' := its ++ [key]) (t' := s.toks) hl e (by simp) (r2.append (.cons (relV_key (show keyIs kvs[i].1 key = true from hkey)) .nil)) (by rw [List.length_append, List.length_singleton, List.length_map, List.length_take]; omega)
    rw [← et] at I3
    have hit2 : (upd H S (.lst ((kvs.take (i + 1)).map fun p => kV p.1))) it = none := by rw [upd_ne hS.symm]; exact f0
    refine ih (i + 1) _ _ (by omega) hlt I3 ⟨hit2, f1, f2, f3, f4, f5⟩ (by rw [upd_ne hSd.symm]; exact hd) upd_same ?_ (fun s' J => hR s' (by rw [upd_upd] at J; exact J))
    show (h'.update S _).IsKeyIter it d (i + 1) kvs.length _
    rw [hlv]
    exact st'.at fun o e => (Heap.get?_update_other _ _ hS).trans e
end
end Own
set_option Elab.async false
set_option linter.all false
set_option maxRecDepth 100000
set_option maxHeartbeats 2000000
/-! list(o), o an instance whose own __iter__ returns iter(d) -/
namespace Own
open PySem PySem.Spec PyProof.Rows L2
/-- a class that tells no length -/
theorem hint_no {M : Model} {A : Around} {E : Value → Shared → Prop} {s : Shared} {Q : Bool → Shared → Prop} {K : PySem.W.Frag} {a C : Addr} {ox : Obj} {od : Option Obj} (n1 : PySem.W.findIn K (.ref C) "__len__" = some none) (n2 : PySem.W.findIn K (.ref C) "__length_hint__" = some none)
    (hK : K.In s.heap) (J : PySem.W.InstAt s.heap a ox C od) (q : Q true s) : wpAny M A (Builtin.List.listLengthHint (.ref a)) Q E s := by
  have l1 := PySem.W.looks_findIn (M := M) hK n1
  have l2 := PySem.W.looks_findIn (M := M) hK n2
  unfold Builtin.List.listLengthHint
  refine wpAny_bind (wpAny_bind (J.type.here (l1.here ?_)))
  refine PySem.W.KFB.if_not (by rfl) (PySem.W.KFB.if_not (by rfl) ?_)
  exact wpAny_bind (wpAny_bind (J.type.here (l2.here (wpAny_pure q))))
def ListTold (C a S : Addr) (Q : VK) (m : Nat) : VK := fun v H2 => ∃ it d od kvs, v = V.ref it ∧ H2 it = some (KiO d od it) ∧ H2 d = some (.frz od (.dK kvs)) ∧ H2 S = some (.lst []) ∧ m ≤ it ∧ (∃ dx fs, H2 a = some (.ins C dx fs)) ∧ Q (.ref S) (upd (ItX.dropH H2 it) S (.lst (kvs.map fun p => kV p.1)))
def rListIt (C : Addr) (sp : Nat → Sp) (E : XK) : List V → Hp → VK → Prop := fun xs H Q => ∃ a dx fs, xs = [V.ref a] ∧ H a = some (.ins C dx fs) ∧ ∀ S, H S = none → ∀ m, sp m [.ref a] (upd H S (.lst [])) (ListTold C a S Q m) E
section
variable {X : Cx} {CX : CXT} {C f : Addr} {fd : FuncData} {ps : List Str} {n : Nat} {sp : Nat → Sp} {E : XK}
theorem list_fill {pins : List (Addr × Obj)} {σ : L2.St} {A : Around} {Rs : Result → Shared → Prop} {S a dx : Addr} {fs : List (Str × V)} {H : Hp} {s : Shared} {Q : VK}
    (F : ∀ base, FnOk X.prog X.w X.K X.mg base CX n f fd ps (sp base.objs.size)) (hb : L2.Binds X.K fd ps []) (hx : Passes CX X E) (hr : Room n A.in1) (hfr : A.in1.frames = X.A.frames) (hh : A.handled = none)
    (hs : PySem.W.findIn X.K (.ref C) "__iter__" = some (some (.ref f))) (hf : PySem.W.isFn X.K (.ref f) = true) (n1 : PySem.W.findIn X.K (.ref C) "__len__" = some none) (n2 : PySem.W.findIn X.K (.ref C) "__length_hint__" = some none)
    (I : L2.Inv X pins σ H s) (ha : H a = some (.ins C dx fs)) (hS : H S = some (.lst [])) (hsp : ∀ m, sp m [.ref a] H (ListTold C a S Q m) E)
    (done : ∀ H' s', L2.Inv X pins σ H' s' → Q (.ref S) H' → Rs (.ok (.ret .none)) s') (bad : ∀ e s', X.xe e s' → Rs (.error e) s') :
    wpAny (model X.prog X.w) A.in1 (Builtin.List.listExtendWith (.ref S) (.ref a) .none)
      (fun fin s' => match fin with | .done g => Rs (.ok g) s' | .again c' => c'.quiet = true ∧ codeAny (model X.prog X.w) A c' Rs s') (fun e s' => Rs (.error e) s') s := by
  have neS : S ≠ a := ne_of hS ha (fun z => nomatch z)
  obtain ⟨mA, J, _⟩ := ins_get I.hok ha
  obtain ⟨od0, J, _⟩ := J.look
  have t1 : Builtin.List.listSameRef (.ref S) (.ref a) = false := by simp [Builtin.List.listSameRef, neS]
  have t2 : (Value.ref C == Value.type "list" || Value.ref C == Value.type "tuple") = false := rfl
  unfold Builtin.List.listExtendWith
  refine wpAny_bind (J.type.here ?_)
  rw [t1, Bool.false_or]
  simp only [t2, Bool.false_eq_true, if_false]
  refine wpAny_bind (wpAny_mono (own_it F hb hx hr hfr hs hf (fun m v H2 ⟨it, d, od, kvs, e1, e2, _⟩ => ⟨it, d, od, e1, e2⟩) I ha hsp) (fun u s2 h2 => ?_) bad)
  obtain ⟨it0, H2, eu, I2, it, d, od, kvs, e0, hi, hd, hS2, hz, ⟨dx2, fs2, ha2⟩, hQ⟩ := h2
  subst eu
  have e9 : it = it0 := by cases e0; rfl
  subst e9
  obtain ⟨mB, J2, _⟩ := ins_get I2.hok ha2
  obtain ⟨od2, J2, _⟩ := J2.look
  refine wpAny_bind (wpAny_holding (hint_no n1 n2 I2.kIn J2 ?_))
  obtain ⟨es, ep, hod, hk⟩ := (show ObjOk X.prog X.w H2 s2.heap it (KiO d od it) from I2.hok it _ hi).1
  obtain ⟨_, _, _, es2, ep2, vs, hdt, hsz, kv, hm⟩ := I2.frzK hd
  obtain ⟨e1, e2⟩ := dict_ep hod hdt
  subst e1
  have nSi : S ≠ it := fun e => by rw [e, hi] at hS2; cases hS2
  have nSd : S ≠ d := fun e => by rw [e, hd] at hS2; cases hS2
  have ndi : d ≠ it := fun e => by rw [e, hi] at hd; cases hd
  have hzk : kvs.length ≤ sizeLine := (dk_rd I2.hok (.inr ⟨od, hd⟩)).1
  have I3 := ItX.inv_drop I2 hi
  have fp := ItX.inv_fp I2 hi (Nat.le_trans I.sz hz)
  have hS3 : ItX.dropH H2 it S = some (.lst []) := (ItX.dropH_ne nSi).trans hS2
  have hd3 : ItX.dropH H2 it d = some (.frz od (.dK kvs)) := (ItX.dropH_ne ndi).trans hd
  generalize ItX.dropH H2 it = H3 at I3 fp hS3 hd3 hQ
  have go : ∀ (s' : Shared), L2.Inv X pins σ H3 s' → s'.heap.IsKeyIter it d 0 kvs.length ep → codeAny (model X.prog X.w) A (.builtin "list.extend.loop" ⟨[.ref S, .ref it, .none], []⟩) Rs s' := fun s' I' st' =>
    key_loop hh hod hzk nSi nSd _ 0 H3 s' rfl (Nat.zero_le _) I' fp hd3 hS3 st' fun s'' I'' => done _ s'' I'' hQ
  rw [hsz] at hk
  obtain ⟨zz, its, cc, r3, ln3, e3⟩ := I3.lstM hS3
  cases r3
  refine wpAny_ite_split (fun _ => ?_) (fun _ => wpAny_pure ⟨plainId_quiet PySem.F.plain_extend_loop _, go s2 I3 hk⟩)
  refine wpAny_bind (wpAny_rule (wpAny_bind ?_))
  show wpAny _ _ (updateSeq S (·.push .none) >>= fun _ => updateSeq S (·.pop)) _ _ _
  refine wpAny_bind (wpAny_updateSeq e3 rfl ?_)
  have J1 := I3.lset (f := (·.push Value.none)) (its' := [Value.none]) (ys := [V.non]) (t' := s2.toks) hS3 e3 (by simp) (.cons rfl .nil) (by rw [List.length_singleton, sizeLine_eq]; decide)
  obtain ⟨z4, its4, c4, r4, ln4, e4⟩ := J1.lstM upd_same
  obtain ⟨u4, rfl, ru4⟩ := r4.one
  refine wpAny_updateSeq e4 rfl (wpAny_pure ⟨plainId_quiet PySem.F.plain_extend_loop _, go _ ?_ ?_⟩) (by show 1 ≤ sizeLine; rw [sizeLine_eq]; decide) (by show 0 ≤ sizeLine + 1; exact Nat.zero_le _)
  · have J2 := J1.lset (f := (·.pop)) (its := [u4]) (its' := []) (ys := []) (t' := s2.toks) upd_same e4 (by rfl) .nil (Nat.zero_le _)
    rw [upd_upd, show upd H3 S (.lst []) = H3 from by
      funext b
      by_cases hb : b = S
      · rw [hb, upd_same, hS3]
      · rw [upd_ne hb]] at J2
    exact J2
  · exact hk.at fun o e => (Heap.get?_update_other _ _ nSi).trans ((Heap.get?_update_other _ _ nSi).trans e)
theorem call_listIt (F : ∀ base, FnOk X.prog X.w X.K X.mg base CX n f fd ps (sp base.objs.size)) (hb : L2.Binds X.K fd ps []) (hx : Passes CX X E) (hc : X.calm = true) (hr : Room (n + 2) X.A)
    (hs : PySem.W.findIn X.K (.ref C) "__iter__" = some (some (.ref f))) (hf : PySem.W.isFn X.K (.ref f) = true) (n1 : PySem.W.findIn X.K (.ref C) "__len__" = some none) (n2 : PySem.W.findIn X.K (.ref C) "__length_hint__" = some none) :
    CallR X (.type "list") (rListIt C sp E) := by
  intro pins s σ H xs us Q I rv ⟨a, dx, fs, ex, ha, hq⟩
  subst ex
  obtain rfl := Vals.ref1 rv
  refine callType_codes (Q₁ := fun ob s1 => ob = .ref s.heap.objs.size ∧ s1 = { s with heap := s.heap.push { cls := .type "list", data := .seq #[] } }) PySem.F.called_list (PySem.F.typeCall_list_1 _) PySem.F.entry_list_init
    (code_list_new _ ⟨rfl, rfl⟩) fun ob s1 h1 => ?_
  obtain ⟨z1, z2⟩ := h1
  subst z1
  subst z2
  have hS : (s.heap.push { cls := .type "list", data := .seq #[] }).get? s.heap.objs.size = some { cls := .type "list", data := .seq #[] } := Heap.get?_push_size _ rfl
  have fr : H s.heap.objs.size = none := I.hok.fresh (Nat.le_refl _)
  refine ⟨⟨_, hS, rfl⟩, PySem.F.args_list_init_2 _ _, ?_⟩
  have I1 : L2.Inv X pins σ (upd H s.heap.objs.size (.lst [])) { s with heap := s.heap.push { cls := .type "list", data := .seq #[] } } := I.lnew (its := []) (t' := s.toks) .nil (Nat.zero_le _)
  show wpAny _ _ (Builtin.List.listItems (.ref s.heap.objs.size) >>= fun old => Builtin.List.listUpdate (.ref s.heap.objs.size) (fun _ => #[]) >>= fun _ => letGo old.toList.reverse >>= fun _ => Builtin.List.listExtendWith (.ref s.heap.objs.size) (.ref a) .none) _ _ _
  refine wpAny_bind ?_
  unfold Builtin.List.listItems
  refine wpAny_bind (wpAny_seqItems hS rfl (wpAny_pure ?_))
  refine wpAny_bind ?_
  show wpAny _ _ (updateSeq s.heap.objs.size (fun _ => #[])) _ _ _
  refine wpAny_updateSeq hS rfl (wpAny_bind (wpAny_letGo ?_))
  have I2 := I1.lset (f := fun _ => #[]) (its := []) (its' := []) (ys := []) (t' := s.toks) upd_same hS rfl .nil (Nat.zero_le _)
  rw [upd_upd] at I2
  exact list_fill (A := X.A.in1) (Rs := wants (fun r s2 => r = .none ∧ EP X pins σ Q (.ref s.heap.objs.size) s2) X.xe) F hb hx (Room.in1 (Room.in1 hr)) rfl (I.ok.hd hc) hs hf n1 n2 I2 (by rw [upd_ne (ne_of_none ha fr)]; exact ha) upd_same (hq _ fr)
    (fun H' s' I' q => ⟨rfl, .ref _, H', I', rfl, q⟩) fun e s' he => he
end
end Own
set_option Elab.async false
set_option linter.all false
set_option maxRecDepth 100000
set_option maxHeartbeats 2000000
/-! list(o), o an instance whose own __iter__ returns iter(d), and whose own __len__ tells a number -/
namespace Own
open PySem PySem.Spec PyProof.Rows L2
section
variable {X : Cx} {CX : CXT} {C f g : Addr} {fd gd : FuncData} {ps qs : List Str} {n m : Nat} {sp : Nat → Sp} {sl : Sp} {E : XK}
theorem own_call1 (F : FnOk X.prog X.w X.K X.mg X.base CX0 m g gd qs sl) (hb : L2.Binds X.K gd qs []) {A : Around} (hr : Room m A) (hfr : A.frames = X.A.frames)
    {pins : List (Addr × Obj)} {s : Shared} {σ : L2.St} {H : Hp} {x : V} {u : Value} {R : V → Hp → Prop} (I : L2.Inv X pins σ H s) (rx : L2.RelV x u) (hsp : sl [x] H R E) :
    wpAny (model X.prog X.w) A (call (.ref g) [u]) (fun w s' => ∃ z H', L2.RelV z w ∧ L2.Inv X pins σ H' s' ∧ R z H') (fun _ _ => False) s := by
  have e0 : Env0 X.prog X.w X.K X.mg X.base A X.stack s H := by
    have e := I.env0
    exact ⟨by rw [hfr]; exact e.frames, e.mod, e.bs, e.bsz, e.funs, e.frf, e.hok, e.bare⟩
  have hl := F.len _ _ _ _ hsp
  have r2 : L2.Vals [x] [u] := .cons rx .nil
  refine wpAny_call (codeAny_mono (F.run A X.stack s H ⟨[u], []⟩ [u] [x] R E hr e0 (by
    have := hb s [u] I.kIn (by simpa using hl)
    simpa using this) r2 hsp) fun r s' hq => ?_)
  cases r with
  | error e => exact False.elim hq
  | ok fl =>
    cases fl with
    | ret w =>
      obtain ⟨z, H', I', rz, q⟩ := I.after hq
      exact ⟨z, H', rz, I', q⟩
    | next => exact False.elim hq
    | brk => exact False.elim hq
    | cont => exact False.elim hq
/-- what an own __len__ has to tell -/
def LenTold (H : Hp) : VK := fun v H' => ∃ k : Nat, v = .int k ∧ k ≤ sizeLine ∧ H' = H
theorem len_own (F : FnOk X.prog X.w X.K X.mg X.base CX0 m g gd qs sl) (hb : L2.Binds X.K gd qs []) {A : Around} (hr : Room (m + 1) A) (hfr : A.frames = X.A.frames)
    (hs : PySem.W.findIn X.K (.ref C) "__len__" = some (some (.ref g))) (hf : PySem.W.isFn X.K (.ref g) = true) {pins : List (Addr × Obj)} {s : Shared} {σ : L2.St} {H : Hp} {a dx : Addr} {fs : List (Str × V)} (I : L2.Inv X pins σ H s) (ha : H a = some (.ins C dx fs)) (hsp : sl [.ref a] H (LenTold H) E) :
    wpAny (model X.prog X.w) A (call (.builtin "len") [.ref a]) (fun r s' => ∃ (k : Nat) (t : Tok), k ≤ sizeLine ∧ r = .int k t ∧ L2.Inv X pins σ H s') (fun _ _ => False) s := by
  obtain ⟨mA, J, _⟩ := ins_get I.hok ha
  obtain ⟨od0, J, _⟩ := J.look
  refine Calls.call_function_entry kind_len plain_len entry_len (args_len1 _) ?_
  unfold Builtin.«len»
  refine wpAny_bind (m := oneArg "len" _) (wpAny_pure ?_)
  refine wpAny_bind (m := callSpecial? (.ref a) (PySem.Str.ofString "__len__")) ?_
  unfold callSpecial? specialOf
  refine wpAny_bind (wpAny_bind (J.type.here ((PySem.W.looks_findIn I.kIn hs).here ?_)))
  refine wpAny_holding (wpAny_bind ((PySem.W.bind_fn I.kIn _ (beq_iff_eq.mp hf)).here ?_))
  refine wpAny_bind (wpAny_mono (own_call1 (A := A.in1) F hb (Room.in1 hr) hfr I (x := .ref a) rfl hsp) (fun w s' h => ?_) fun _ _ h => h)
  obtain ⟨z, H', rz, I', k, ez, hk, eH⟩ := h
  subst ez
  subst eH
  obtain ⟨t, rfl⟩ := (show ∃ t, w = Value.int k t from rz)
  have hz : sizeLine = 16777216 := sizeLine_eq
  refine wpAny_pure (wpAny_bind (wpAny_holding (wpAny_pure ?_)))
  refine wpAny_bind (wpAny_letGo ?_)
  show wpAny _ _ (if ((k : Nat) : Int) < 0 then _ else _) _ _ _
  rw [if_neg (by omega)]
  show wpAny _ _ (if ((k : Nat) : Int) ≥ 2 ^ 63 then _ else _) _ _ _
  rw [if_neg (by omega)]
  exact wpAny_bind (wpAny_mkInt (wpAny_pure ⟨_, rfl, _, _, hk, rfl, I'.tok _⟩))
theorem hint_own (F : FnOk X.prog X.w X.K X.mg X.base CX0 m g gd qs sl) (hb : L2.Binds X.K gd qs []) {A : Around} (hr : Room (m + 1) A) (hfr : A.frames = X.A.frames)
    (hs : PySem.W.findIn X.K (.ref C) "__len__" = some (some (.ref g))) (hf : PySem.W.isFn X.K (.ref g) = true) {pins : List (Addr × Obj)} {s : Shared} {σ : L2.St} {H : Hp} {a dx : Addr} {fs : List (Str × V)} (I : L2.Inv X pins σ H s) (ha : H a = some (.ins C dx fs)) (hsp : sl [.ref a] H (LenTold H) E)
    {Q : Bool → Shared → Prop} {Eh : Value → Shared → Prop} (q : ∀ b s', L2.Inv X pins σ H s' → Q b s') : wpAny (model X.prog X.w) A (Builtin.List.listLengthHint (.ref a)) Q Eh s := by
  obtain ⟨mA, J, _⟩ := ins_get I.hok ha
  obtain ⟨od0, J, _⟩ := J.look
  have l1 := PySem.W.looks_findIn (M := model X.prog X.w) I.kIn hs
  unfold Builtin.List.listLengthHint
  refine wpAny_bind (wpAny_bind (J.type.here (l1.here ?_)))
  refine PySem.W.KFB.if_not (by rfl) ?_
  refine wpAny_bind (wpAny_rule (wpAny_bind (wpAny_attempt (wpAny_mono (len_own F hb hr hfr hs hf I ha hsp) (fun r s' h => ?_) fun e s' h => h.elim))))
  obtain ⟨k, t, hk, rfl, I'⟩ := h
  have hz : sizeLine = 16777216 := sizeLine_eq
  refine wpAny_bind (wpAny_pure ?_)
  refine PySem.W.KFB.if_not (by show decide _ = false; exact decide_eq_false (by rw [Int.toNat_natCast]; omega)) ?_
  exact wpAny_pure (q _ _ I')
def ListToldL (C a S : Addr) (sl : Sp) (E : XK) (Q : VK) (m : Nat) : VK := fun v H2 => ∃ it d od kvs, v = V.ref it ∧ H2 it = some (KiO d od it) ∧ H2 d = some (.frz od (.dK kvs)) ∧ H2 S = some (.lst []) ∧ m ≤ it ∧ (∃ dx fs, H2 a = some (.ins C dx fs)) ∧ sl [V.ref a] H2 (LenTold H2) E ∧ Q (.ref S) (upd (ItX.dropH H2 it) S (.lst (kvs.map fun p => kV p.1)))
def rListIL (C : Addr) (sp : Nat → Sp) (sl : Sp) (E : XK) : List V → Hp → VK → Prop := fun xs H Q => ∃ a dx fs, xs = [V.ref a] ∧ H a = some (.ins C dx fs) ∧ ∀ S, H S = none → ∀ m, sp m [.ref a] (upd H S (.lst [])) (ListToldL C a S sl E Q m) E
theorem list_fillL {pins : List (Addr × Obj)} {σ : L2.St} {A : Around} {Rs : Result → Shared → Prop} {S a dx : Addr} {fs : List (Str × V)} {H : Hp} {s : Shared} {Q : VK}
    (F : ∀ base, FnOk X.prog X.w X.K X.mg base CX n f fd ps (sp base.objs.size)) (hb : L2.Binds X.K fd ps []) (hx : Passes CX X E) (hr : Room n A.in1) (hrm : Room (m + 1) A.in1) (hfr : A.in1.frames = X.A.frames) (hh : A.handled = none)
    (hs : PySem.W.findIn X.K (.ref C) "__iter__" = some (some (.ref f))) (hf : PySem.W.isFn X.K (.ref f) = true) (G : FnOk X.prog X.w X.K X.mg X.base CX0 m g gd qs sl) (hgb : L2.Binds X.K gd qs []) (n1 : PySem.W.findIn X.K (.ref C) "__len__" = some (some (.ref g))) (n2 : PySem.W.isFn X.K (.ref g) = true)
    (I : L2.Inv X pins σ H s) (ha : H a = some (.ins C dx fs)) (hS : H S = some (.lst [])) (hsp : ∀ m, sp m [.ref a] H (ListToldL C a S sl E Q m) E)
    (done : ∀ H' s', L2.Inv X pins σ H' s' → Q (.ref S) H' → Rs (.ok (.ret .none)) s') (bad : ∀ e s', X.xe e s' → Rs (.error e) s') :
    wpAny (model X.prog X.w) A.in1 (Builtin.List.listExtendWith (.ref S) (.ref a) .none)
      (fun fin s' => match fin with | .done g => Rs (.ok g) s' | .again c' => c'.quiet = true ∧ codeAny (model X.prog X.w) A c' Rs s') (fun e s' => Rs (.error e) s') s := by
  have neS : S ≠ a := ne_of hS ha (fun z => nomatch z)
  obtain ⟨mA, J, _⟩ := ins_get I.hok ha
  obtain ⟨od0, J, _⟩ := J.look
  have t1 : Builtin.List.listSameRef (.ref S) (.ref a) = false := by simp [Builtin.List.listSameRef, neS]
  have t2 : (Value.ref C == Value.type "list" || Value.ref C == Value.type "tuple") = false := rfl
  unfold Builtin.List.listExtendWith
  refine wpAny_bind (J.type.here ?_)
  rw [t1, Bool.false_or]
  simp only [t2, Bool.false_eq_true, if_false]
  refine wpAny_bind (wpAny_mono (own_it F hb hx hr hfr hs hf (fun m v H2 ⟨it, d, od, kvs, e1, e2, _⟩ => ⟨it, d, od, e1, e2⟩) I ha hsp) (fun u s2 h2 => ?_) bad)
  obtain ⟨it0, H2, eu, I2, it, d, od, kvs, e0, hi, hd, hS2, hz, ⟨dx2, fs2, ha2⟩, hL, hQ⟩ := h2
  subst eu
  have e9 : it = it0 := by cases e0; rfl
  subst e9
  obtain ⟨mB, J2, _⟩ := ins_get I2.hok ha2
  obtain ⟨od2, J2, _⟩ := J2.look
  refine wpAny_bind (wpAny_holding (hint_own G hgb hrm hfr n1 n2 I2 ha2 hL fun b9 s2 I2 => ?_))
  obtain ⟨es, ep, hod, hk⟩ := (show ObjOk X.prog X.w H2 s2.heap it (KiO d od it) from I2.hok it _ hi).1
  obtain ⟨_, _, _, es2, ep2, vs, hdt, hsz, kv, hm⟩ := I2.frzK hd
  obtain ⟨e1, e2⟩ := dict_ep hod hdt
  subst e1
  have nSi : S ≠ it := fun e => by rw [e, hi] at hS2; cases hS2
  have nSd : S ≠ d := fun e => by rw [e, hd] at hS2; cases hS2
  have ndi : d ≠ it := fun e => by rw [e, hi] at hd; cases hd
  have hzk : kvs.length ≤ sizeLine := (dk_rd I2.hok (.inr ⟨od, hd⟩)).1
  have I3 := ItX.inv_drop I2 hi
  have fp := ItX.inv_fp I2 hi (Nat.le_trans I.sz hz)
  have hS3 : ItX.dropH H2 it S = some (.lst []) := (ItX.dropH_ne nSi).trans hS2
  have hd3 : ItX.dropH H2 it d = some (.frz od (.dK kvs)) := (ItX.dropH_ne ndi).trans hd
  generalize ItX.dropH H2 it = H3 at I3 fp hS3 hd3 hQ
  have go : ∀ (s' : Shared), L2.Inv X pins σ H3 s' → s'.heap.IsKeyIter it d 0 kvs.length ep → codeAny (model X.prog X.w) A (.builtin "list.extend.loop" ⟨[.ref S, .ref it, .none], []⟩) Rs s' := fun s' I' st' =>
    key_loop hh hod hzk nSi nSd _ 0 H3 s' rfl (Nat.zero_le _) I' fp hd3 hS3 st' fun s'' I'' => done _ s'' I'' hQ
  rw [hsz] at hk
  obtain ⟨zz, its, cc, r3, ln3, e3⟩ := I3.lstM hS3
  cases r3
  refine wpAny_ite_split (fun _ => ?_) (fun _ => wpAny_pure ⟨plainId_quiet PySem.F.plain_extend_loop _, go s2 I3 hk⟩)
  refine wpAny_bind (wpAny_rule (wpAny_bind ?_))
  show wpAny _ _ (updateSeq S (·.push .none) >>= fun _ => updateSeq S (·.pop)) _ _ _
  refine wpAny_bind (wpAny_updateSeq e3 rfl ?_)
  have J1 := I3.lset (f := (·.push Value.none)) (its' := [Value.none]) (ys := [V.non]) (t' := s2.toks) hS3 e3 (by simp) (.cons rfl .nil) (by rw [List.length_singleton, sizeLine_eq]; decide)
  obtain ⟨z4, its4, c4, r4, ln4, e4⟩ := J1.lstM upd_same
  obtain ⟨u4, rfl, ru4⟩ := r4.one
  refine wpAny_updateSeq e4 rfl (wpAny_pure ⟨plainId_quiet PySem.F.plain_extend_loop _, go _ ?_ ?_⟩) (by show 1 ≤ sizeLine; rw [sizeLine_eq]; decide) (by show 0 ≤ sizeLine + 1; exact Nat.zero_le _)
  · have J2 := J1.lset (f := (·.pop)) (its := [u4]) (its' := []) (ys := []) (t' := s2.toks) upd_same e4 (by rfl) .nil (Nat.zero_le _)
    rw [upd_upd, show upd H3 S (.lst []) = H3 from by
      funext b
      by_cases hb : b = S
      · rw [hb, upd_same, hS3]
      · rw [upd_ne hb]] at J2
    exact J2
  · exact hk.at fun o e => (Heap.get?_update_other _ _ nSi).trans ((Heap.get?_update_other _ _ nSi).trans e)
theorem call_listIL (F : ∀ base, FnOk X.prog X.w X.K X.mg base CX n f fd ps (sp base.objs.size)) (hb : L2.Binds X.K fd ps []) (hx : Passes CX X E) (hc : X.calm = true) (hr : Room (n + 2) X.A) (hrm : Room (m + 3) X.A)
    (hs : PySem.W.findIn X.K (.ref C) "__iter__" = some (some (.ref f))) (hf : PySem.W.isFn X.K (.ref f) = true) (G : FnOk X.prog X.w X.K X.mg X.base CX0 m g gd qs sl) (hgb : L2.Binds X.K gd qs []) (n1 : PySem.W.findIn X.K (.ref C) "__len__" = some (some (.ref g))) (n2 : PySem.W.isFn X.K (.ref g) = true) :
    CallR X (.type "list") (rListIL C sp sl E) := by
  intro pins s σ H xs us Q I rv ⟨a, dx, fs, ex, ha, hq⟩
  subst ex
  obtain rfl := Vals.ref1 rv
  refine callType_codes (Q₁ := fun ob s1 => ob = .ref s.heap.objs.size ∧ s1 = { s with heap := s.heap.push { cls := .type "list", data := .seq #[] } }) PySem.F.called_list (PySem.F.typeCall_list_1 _) PySem.F.entry_list_init
    (code_list_new _ ⟨rfl, rfl⟩) fun ob s1 h1 => ?_
  obtain ⟨z1, z2⟩ := h1
  subst z1
  subst z2
  have hS : (s.heap.push { cls := .type "list", data := .seq #[] }).get? s.heap.objs.size = some { cls := .type "list", data := .seq #[] } := Heap.get?_push_size _ rfl
  have fr : H s.heap.objs.size = none := I.hok.fresh (Nat.le_refl _)
  refine ⟨⟨_, hS, rfl⟩, PySem.F.args_list_init_2 _ _, ?_⟩
  have I1 : L2.Inv X pins σ (upd H s.heap.objs.size (.lst [])) { s with heap := s.heap.push { cls := .type "list", data := .seq #[] } } := I.lnew (its := []) (t' := s.toks) .nil (Nat.zero_le _)
  show wpAny _ _ (Builtin.List.listItems (.ref s.heap.objs.size) >>= fun old => Builtin.List.listUpdate (.ref s.heap.objs.size) (fun _ => #[]) >>= fun _ => letGo old.toList.reverse >>= fun _ => Builtin.List.listExtendWith (.ref s.heap.objs.size) (.ref a) .none) _ _ _
  refine wpAny_bind ?_
  unfold Builtin.List.listItems
  refine wpAny_bind (wpAny_seqItems hS rfl (wpAny_pure ?_))
  refine wpAny_bind ?_
  show wpAny _ _ (updateSeq s.heap.objs.size (fun _ => #[])) _ _ _
  refine wpAny_updateSeq hS rfl (wpAny_bind (wpAny_letGo ?_))
  have I2 := I1.lset (f := fun _ => #[]) (its := []) (its' := []) (ys := []) (t' := s.toks) upd_same hS rfl .nil (Nat.zero_le _)
  rw [upd_upd] at I2
  exact list_fillL (A := X.A.in1) (Rs := wants (fun r s2 => r = .none ∧ EP X pins σ Q (.ref s.heap.objs.size) s2) X.xe) F hb hx (Room.in1 (Room.in1 hr)) (Room.in1 (Room.in1 hrm)) rfl (I.ok.hd hc) hs hf G hgb n1 n2 I2 (by rw [upd_ne (ne_of_none ha fr)]; exact ha) upd_same (hq _ fr)
    (fun H' s' I' q => ⟨rfl, .ref _, H', I', rfl, q⟩) fun e s' he => he
/-- len of a dict, locked or not -/
theorem call_lenRd : CallR X (.builtin "len") (fun xs H Q => ∃ a kvs, xs = [V.ref a] ∧ Rd H a (.dK kvs) ∧ Q (.int kvs.length) H) := by
  rintro pins s σ H xs us Q I r ⟨a, kvs, rfl, ha, q⟩
  obtain ⟨u, rfl, ru⟩ := vals1 r
  cases ru
  exact d_len I ha fun t s' I' => ⟨.int kvs.length, H, I', ⟨t, rfl⟩, q⟩
/-- rules for what stands in a comprehension, K written -/
theorem ixTupOf {K : PySem.W.Frag} (h : X.K = K) : IxR X (rIxT K) := h ▸ ix_tup
theorem fldOf {K : PySem.W.Frag} (h : X.K = K) {e : Expr} {ta : TE} {f : Str} {pos : Pos} (he : PE X e ta) (hb : attributeBase e f X.env (eval e X.env) = eval e X.env) : PE X (.Attribute e f pos) (tFld K ta f) := h ▸ pe_fld he hb
theorem notInSeqOf {K : PySem.W.Frag} (h : X.K = K) : OpR X (compareOp .NotIn) (rIn K true) := h ▸ op_notIn_seq
end
end Own
set_option Elab.async false
set_option linter.all false
set_option maxRecDepth 100000
set_option maxHeartbeats 2000000
/-! a dict that has texts and tuples among its keys -/
namespace Own
open PySem PySem.Spec PyProof.Rows L2
abbrev MK := Str ⊕ List L2.Key
section
variable (P : Program) (w : World)
def mIs (h : Heap) : MK → Value → Prop
  | .inl x, v => ∃ t, v = .str x t
  | .inr ks, v => ∃ a, v = .ref a ∧ (tupleKind (mixKind P w)).is h ks a
def mHash : MK → Int
  | .inl x => (mixKind P w).hash (.inr x)
  | .inr ks => (tupleKind (mixKind P w)).hash ks
def mDraws : MK → Nat
  | .inl _ => 1
  | .inr ks => ks.length + 1
def mEnt (x : MK × Value × Value) : DictEntry := ⟨mHash P w x.1, x.2.1, x.2.2⟩
end
section
variable {P : Program} {w : World} {A : Around} {E : Value → Shared → Prop} {s : Shared} {h : Heap}
theorem mix_str {x : Str} {t : Tok} : (mixKind P w).is (.inr x) (.str x t) = true := kV_is (k := .inr x) (u := .str x t) ⟨t, rfl⟩
theorem mIs_inj {x y : MK} {v : Value} (a : mIs P w h x v) (b : mIs P w h y v) : x = y := by
  cases x with
  | inl x =>
    obtain ⟨t, rfl⟩ := a
    cases y with
    | inl y => obtain ⟨t2, e⟩ := b; injection e with e1 _; rw [e1]
    | inr ys => obtain ⟨a2, e, _⟩ := b; cases e
  | inr xs =>
    obtain ⟨a1, rfl, ha⟩ := a
    cases y with
    | inl y => obtain ⟨t2, e⟩ := b; cases e
    | inr ys =>
      obtain ⟨a2, e, hb⟩ := b
      cases e
      rw [(tupleKind (mixKind P w)).inj ha hb]
theorem mIs_keeps {h' : Heap} {k : MK} {v : Value} {d : Addr} {o : Obj} {es ep} (a : mIs P w h k v) (ho : h.get? d = some o) (hd : o.data = .dict es ep) (hs : Heap.SameBut d h h') : mIs P w h' k v := by
  cases k with
  | inl x => exact a
  | inr ks =>
    obtain ⟨b, rfl, hb⟩ := a
    exact ⟨b, rfl, (tupleKind (mixKind P w)).keeps hb ho hd hs⟩
theorem m_hash {k : MK} {v : Value} {Q : Int → Shared → Prop} (hu : A.units < cLine) (hk : mIs P w s.heap k v) (q : Q (mHash P w k) { s with toks := s.toks + mDraws k }) : wpAny (model P w) A (pyHash v) Q E s := by
  cases k with
  | inl x =>
    obtain ⟨t, rfl⟩ := hk
    exact (mixKind P w).pyHash mix_str q
  | inr ks =>
    obtain ⟨b, rfl, hb⟩ := hk
    exact (tupleKind (mixKind P w)).pyHash hu hb q
theorem tup_at {ks : List L2.Key} {a : Addr} (hk : (tupleKind (mixKind P w)).is s.heap ks a) : ∃ items, s.heap.IsTuple a items := by
  obtain ⟨o, items, n, h1, h2, h3, _⟩ := (show IsTupleKey (mixKind P w) s.heap ks a from hk)
  exact ⟨items, o, h1, h2, n, h3⟩
theorem m_eq {x y : MK} {u v : Value} {Q : Bool → Shared → Prop} (hu : A.units < cLine) (hx : mIs P w s.heap x u) (hy : mIs P w s.heap y v) (q : Q (decide (x = y)) s) : wpAny (model P w) A (eqBool u v) Q E s := by
  cases x with
  | inl x =>
    obtain ⟨t, rfl⟩ := hx
    cases y with
    | inl y =>
      obtain ⟨t2, rfl⟩ := hy
      refine (mixKind P w).eqBool (a := .inr x) (b := .inr y) mix_str mix_str ?_
      have e : decide ((Sum.inr x : L2.Key) = .inr y) = decide ((Sum.inl x : MK) = .inl y) := by
        by_cases e : x = y
        · subst e; rw [decide_eq_true rfl, decide_eq_true rfl]
        · rw [decide_eq_false (fun z => e (Sum.inr.inj z)), decide_eq_false (fun z => e (Sum.inl.inj z))]
      rw [e]; exact q
    | inr ys =>
      obtain ⟨b, rfl, hb⟩ := hy
      obtain ⟨its, hi⟩ := tup_at hb
      exact SeqAt.EqAt.str_tuple x t hi hu P w E Q (by rw [decide_eq_false (fun z => nomatch z)] at q; exact q)
  | inr xs =>
    obtain ⟨a, rfl, ha⟩ := hx
    cases y with
    | inl y =>
      obtain ⟨t2, rfl⟩ := hy
      obtain ⟨its, hi⟩ := tup_at ha
      exact SeqAt.EqAt.tuple_str y t2 hi hu P w E Q (by rw [decide_eq_false (fun z => nomatch z)] at q; exact q)
    | inr ys =>
      obtain ⟨b, rfl, hb⟩ := hy
      refine (tupleKind (mixKind P w)).eqBool hu ha hb ?_
      have e : decide (xs = ys) = decide ((Sum.inr xs : MK) = .inr ys) := by
        by_cases e : xs = ys
        · subst e; rw [decide_eq_true rfl, decide_eq_true rfl]
        · rw [decide_eq_false e, decide_eq_false (fun z => e (Sum.inr.inj z))]
      rw [e]; exact q
theorem m_quiet {k : MK} {v : Value} {Q : Bool → Shared → Prop} (hk : mIs P w s.heap k v) (q : Q true s) : wpAny (model P w) A (eqIsQuiet 8 v) Q E s := by
  cases k with
  | inl x =>
    obtain ⟨t, rfl⟩ := hk
    exact wpAny_pure q
  | inr ks =>
    obtain ⟨b, rfl, hb⟩ := hk
    exact (tupleKind (mixKind P w)).quiet hb q
theorem m_tell {k : MK} {key : Value} {stored : List Value} {Q : Bool → Shared → Prop} (hkey : mIs P w s.heap k key) (hst : ∀ v ∈ stored, ∃ k', mIs P w s.heap k' v) (q : Q false s) : wpAny (model P w) A (tableMayTell key stored) Q E s := by
  unfold tableMayTell
  split
  · exact wpAny_pure q
  · refine wpAny_bind (m_quiet hkey ?_)
    simp only [Bool.not_true, Bool.false_eq_true, if_false]
    refine wpAny_bind ?_
    refine wpAny_forIn_list _ (fun rest r s' => s' = s ∧ r = (none, ()) ∧ ∀ v ∈ rest, ∃ k', mIs P w s.heap k' v) _ ?_ ?_ _ _ ⟨rfl, rfl, hst⟩
    · rintro x rest r s' ⟨rfl, rfl, hr⟩
      obtain ⟨k', hb⟩ := hr x List.mem_cons_self
      refine wpAny_bind (m_quiet hb ?_)
      simp only [Bool.not_true, Bool.false_eq_true, if_false]
      exact wpAny_pure ⟨rfl, rfl, fun v hv => hr v (List.mem_cons_of_mem _ hv)⟩
    · rintro r s' ⟨rfl, rfl, _⟩
      exact wpAny_pure q
/-! ### the entries -/
theorem ent_at {es : Array DictEntry} {xs : List (MK × Value × Value)} (he : es.toList = xs.map (mEnt P w)) (j : Nat) : es[j]? = (xs[j]?).map (mEnt P w) := by
  rw [← Array.getElem?_toList, he, List.getElem?_map]
theorem ent_size {es : Array DictEntry} {xs : List (MK × Value × Value)} (he : es.toList = xs.map (mEnt P w)) : es.size = xs.length := by
  rw [← Array.length_toList, he, List.length_map]
theorem ent_uniq {xs : List (MK × Value × Value)} (hn : (xs.map (·.1)).Nodup) {i j : Nat} {k : MK} {p q : Value × Value} (hi : xs[i]? = some (k, p)) (hj : xs[j]? = some (k, q)) : i = j := by
  have e1 : (xs.map (·.1))[i]? = some k := by rw [List.getElem?_map, hi]; rfl
  have e2 : (xs.map (·.1))[j]? = some k := by rw [List.getElem?_map, hj]; rfl
  obtain ⟨h1, z1⟩ := List.getElem?_eq_some_iff.mp e1
  obtain ⟨h2, z2⟩ := List.getElem?_eq_some_iff.mp e2
  exact (List.getElem_inj hn).mp (z1.trans z2.symm)
theorem ent_mem {es : Array DictEntry} {xs : List (MK × Value × Value)} (he : es.toList = xs.map (mEnt P w)) {e : DictEntry} (m : e ∈ es) : ∃ x ∈ xs, mEnt P w x = e := by
  have : e ∈ xs.map (mEnt P w) := he ▸ Array.mem_toList_iff.mpr m
  exact List.mem_map.mp this
/-- all texts: the library's own way -/
theorem find_strs {d : Addr} {o : Obj} {es ep} {xs : List (MK × Value × Value)} {x : Str} {t : Tok} {Q : Option Nat → Shared → Prop} (ho : s.heap.get? d = some o) (hd : o.data = .dict es ep) (he : es.toList = xs.map (mEnt P w)) (his : ∀ y ∈ xs, mIs P w s.heap y.1 y.2.1) (hs : ∀ y ∈ xs, ∃ z, y.1 = .inl z)
    (hnone : (∀ (j : Nat) (p : Value × Value), xs[j]? ≠ some (.inl x, p)) → Q none s) (hsome : ∀ (j : Nat) (p : Value × Value), xs[j]? = some (.inl x, p) → Q (some j) s) :
    wpAny (model P w) A (dictFind d (.str x t) (mHash P w (.inl x))) Q E s := by
  refine wpAny_dictFind_of (knd := mixKind P w) (k := .inr x) mix_str ho hd (fun e m => ?_) ?_
  · obtain ⟨y, hy, rfl⟩ := ent_mem he m
    obtain ⟨z, ez⟩ := hs y hy
    obtain ⟨k, v, u⟩ := y
    cases ez
    obtain ⟨t2, e2⟩ := his _ hy
    exact ⟨.inr z, by show (mixKind P w).is (.inr z) v = true; rw [show v = .str z t2 from e2]; exact mix_str, rfl⟩
  · have at_ : ∀ (j : Nat) (hj : j < es.size), ((mixKind P w).is (.inr x) es[j].key = true ↔ ∃ p, xs[j]? = some (.inl x, p)) := fun j hj => by
      have e1 := ent_at he j
      have hj2 : j < xs.length := by rw [← ent_size he]; exact hj
      rw [Array.getElem?_eq_getElem hj, List.getElem?_eq_getElem hj2] at e1
      have e2 : es[j] = mEnt P w xs[j] := Option.some.inj e1
      obtain ⟨z, ez⟩ := hs _ (List.getElem_mem hj2)
      obtain ⟨t2, e3⟩ := (show mIs P w s.heap (.inl z) xs[j].2.1 from ez ▸ his _ (List.getElem_mem hj2))
      rw [e2, List.getElem?_eq_getElem hj2]
      constructor
      · intro q
        have q2 : (mixKind P w).is (.inr x) (.str z t2) = true := by rw [← e3]; exact q
        have := (mixKind P w).inj _ _ _ q2 (mix_str (x := z) (t := t2))
        cases this
        exact ⟨xs[j].2, by rw [← ez]⟩
      · rintro ⟨p, q⟩
        have q3 : xs[j] = (.inl x, p) := Option.some.inj q
        have : z = x := by rw [q3] at ez; cases ez; rfl
        subst this
        show (mixKind P w).is (.inr z) xs[j].2.1 = true
        rw [e3]; exact mix_str
    cases hf : es.findIdx? (fun e => (mixKind P w).is (.inr x) e.key) with
    | none =>
      refine hnone fun j p hj => ?_
      have hj1 : j < es.size := by rw [ent_size he]; exact (List.getElem?_eq_some_iff.mp hj).1
      have := Array.findIdx?_eq_none_iff.mp hf es[j] (Array.getElem_mem hj1)
      rw [(at_ j hj1).mpr ⟨p, hj⟩] at this
      cases this
    | some i =>
      obtain ⟨hlt, hi, _⟩ := Array.findIdx?_eq_some_iff_getElem.mp hf
      obtain ⟨p, hp⟩ := (at_ i hlt).mp hi
      exact hsome i p hp
/-- where a lookup stands -/
def Hit (xs : List (MK × Value × Value)) (k : MK) (i : Nat) (hit : Option Nat) : Prop := (hit = none ∧ ∀ j p, j < i → xs[j]? ≠ some (k, p)) ∨ ∃ j p, hit = some j ∧ j < i ∧ xs[j]? = some (k, p)
theorem Hit.fresh {xs : List (MK × Value × Value)} {k : MK} {i : Nat} {hit : Option Nat} {p : Value × Value} (h : Hit xs k i hit) (hn : (xs.map (·.1)).Nodup) (hi : xs[i]? = some (k, p)) : hit = none := by
  rcases h with ⟨e, _⟩ | ⟨j, q, _, hj, e⟩
  · exact e
  · have := ent_uniq hn e hi
    omega
theorem Hit.pass {xs : List (MK × Value × Value)} {k k' : MK} {i : Nat} {hit : Option Nat} {p : Value × Value} (h : Hit xs k i hit) (hi : xs[i]? = some (k', p)) (ne : ¬ k' = k) : Hit xs k (i + 1) hit := by
  rcases h with ⟨e, hno⟩ | ⟨j, q, e, hj, e2⟩
  · refine .inl ⟨e, fun j q hj e2 => ?_⟩
    rcases Nat.lt_or_ge j i with lt | ge
    · exact hno j q lt e2
    · have : j = i := by omega
      subst this
      rw [hi] at e2
      exact ne (congrArg Prod.fst (Option.some.inj e2))
  · exact .inr ⟨j, q, e, by omega, e2⟩
theorem walk_step {es : Array DictEntry} {xs : List (MK × Value × Value)} {k : MK} {y : Nat} {rest : List Nat} {i : Nat} {hit : Option Nat} (he : es.toList = xs.map (mEnt P w)) (haskey : ∀ (j : Nat) (p : Value × Value), xs[j]? = some (k, p) → ((es[j]?.map (·.hash)) == some (mHash P w k)) = true)
    (hr : y :: rest = (List.range' i (es.size - i)).filter (fun i => (es[i]?.map (·.hash)) == some (mHash P w k))) (hi : i ≤ es.size) (hH : Hit xs k i hit) :
    y < es.size ∧ rest = (List.range' (y + 1) (es.size - (y + 1))).filter (fun i => (es[i]?.map (·.hash)) == some (mHash P w k)) ∧ ∃ (k' : MK) (v u : Value), xs[y]? = some (k', v, u) ∧ es[y]? = some ⟨mHash P w k', v, u⟩ ∧ Hit xs k y hit := by
  obtain ⟨hix, hxn, hpx, hskip, hrest⟩ := filter_range'_cons _ _ _ _ _ hr.symm
  have hlt : y < es.size := by omega
  have hlx : y < xs.length := by rw [← ent_size he]; exact hlt
  refine ⟨hlt, by rw [hrest]; congr 2; omega, xs[y].1, xs[y].2.1, xs[y].2.2, List.getElem?_eq_getElem hlx, ?_, ?_⟩
  · rw [ent_at he y, List.getElem?_eq_getElem hlx]; rfl
  · rcases hH with ⟨e, hno⟩ | ⟨j, q, e, hj, e2⟩
    · refine .inl ⟨e, fun j q hj e2 => ?_⟩
      rcases Nat.lt_or_ge j i with lt | ge
      · exact hno j q lt e2
      · have := hskip j ge hj
        rw [haskey j q e2] at this
        cases this
    · exact .inr ⟨j, q, e, by omega, e2⟩
theorem walk_end {es : Array DictEntry} {xs : List (MK × Value × Value)} {k : MK} {i : Nat} {hit : Option Nat} (he : es.toList = xs.map (mEnt P w)) (haskey : ∀ (j : Nat) (p : Value × Value), xs[j]? = some (k, p) → ((es[j]?.map (·.hash)) == some (mHash P w k)) = true)
    (hr : [] = (List.range' i (es.size - i)).filter (fun i => (es[i]?.map (·.hash)) == some (mHash P w k))) (hi : i ≤ es.size) (hH : Hit xs k i hit) :
    (hit = none ∧ ∀ (j : Nat) (p : Value × Value), xs[j]? ≠ some (k, p)) ∨ ∃ j p, hit = some j ∧ xs[j]? = some (k, p) := by
  rcases hH with ⟨e, hno⟩ | ⟨j, q, e, _, e2⟩
  · refine .inl ⟨e, fun j p hj => ?_⟩
    rcases Nat.lt_or_ge j i with lt | ge
    · exact hno j p lt hj
    · have hj1 : j < es.size := by rw [ent_size he]; exact (List.getElem?_eq_some_iff.mp hj).1
      have := List.filter_eq_nil_iff.mp hr.symm j (List.mem_range'_1.mpr ⟨ge, by omega⟩)
      rw [haskey j p hj] at this
      exact this rfl
  · exact .inr ⟨j, q, e, e2⟩
theorem m_find {d : Addr} {o : Obj} {es ep} {xs : List (MK × Value × Value)} {k : MK} {key : Value} {Q : Option Nat → Shared → Prop} (hu : A.units < cLine) (hkey : mIs P w s.heap k key) (ho : s.heap.get? d = some o) (hd : o.data = .dict es ep) (he : es.toList = xs.map (mEnt P w)) (his : ∀ y ∈ xs, mIs P w s.heap y.1 y.2.1) (hn : (xs.map (·.1)).Nodup)
    (hnone : (∀ (j : Nat) (p : Value × Value), xs[j]? ≠ some (k, p)) → Q none s) (hsome : ∀ (j : Nat) (p : Value × Value), xs[j]? = some (k, p) → Q (some j) s) :
    wpAny (model P w) A (dictFind d key (mHash P w k)) Q E s := by
  have hsz : es.size = xs.length := ent_size he
  have haskey : ∀ (j : Nat) (p : Value × Value), xs[j]? = some (k, p) → ((es[j]?.map (·.hash)) == some (mHash P w k)) = true := by
    intro j p hj
    rw [ent_at he j, hj]
    simp [mEnt]
  have hst : ∀ v ∈ (placesWithHash es.size (fun i => es[i]?.map (·.hash)) (mHash P w k)).filterMap (fun i => es[i]?.map (·.key)), ∃ k', mIs P w s.heap k' v := by
    intro v hv
    obtain ⟨i, _, hi⟩ := List.mem_filterMap.mp hv
    cases hei : es[i]? with
    | none => rw [hei] at hi; cases hi
    | some e =>
      rw [hei] at hi
      obtain rfl : e.key = v := by simpa using hi
      obtain ⟨x, hx, rfl⟩ := ent_mem he (Array.mem_of_getElem? hei)
      exact ⟨x.1, his x hx⟩
  cases k with
  | inl x =>
    obtain ⟨t, rfl⟩ := id hkey
    by_cases hall : ∀ y ∈ xs, ∃ z, y.1 = .inl z
    · exact find_strs ho hd he his hall hnone hsome
    · have hns : ¬ (es.all fun e => isExactStrKey e.key) = true := fun z => hall fun y hy => by
        have m : mEnt P w y ∈ es := Array.mem_toList_iff.mp (he ▸ List.mem_map.mpr ⟨y, hy, rfl⟩)
        have q := Array.all_eq_true_iff_forall_mem.mp z _ m
        obtain ⟨k, v, u⟩ := y
        cases k with
        | inl z => exact ⟨z, rfl⟩
        | inr ks =>
          obtain ⟨a, e, _⟩ := (show mIs P w s.heap (.inr ks) v from his _ hy)
          subst e
          cases q
      unfold dictFind
      try with_reducible refine wpAny_holding ?_
      refine wpAny_bind (wpAny_dictEntries ho hd ?_)
      dsimp only
      rw [if_neg hns]
      by_cases hv : ((Value.str x t :: (placesWithHash es.size (fun i => es[i]?.map (·.hash)) (mHash P w (.inl x))).filterMap (fun i => es[i]?.map (·.key))).all carriedByValue) = true
      · rw [if_pos hv]
        refine wpAny_bind ?_
        refine wpAny_forIn_list _
          (fun rest b s' => s' = s ∧ b = (none, ()) ∧ ∃ i, rest = (List.range' i (es.size - i)).filter (fun i => (es[i]?.map (·.hash)) == some (mHash P w (.inl x))) ∧ i ≤ es.size ∧ Hit xs (.inl x) i none) _ ?_ ?_ _ _
          ⟨rfl, rfl, 0, by rw [placesWithHash, List.range_eq_range', Nat.sub_zero], Nat.zero_le _, .inl ⟨rfl, fun _ _ z => absurd z (Nat.not_lt_zero _)⟩⟩
        · rintro y rest b s' ⟨rfl, rfl, i, hr, hi, hH⟩
          obtain ⟨hlt, hr2, k', v', u', hkv, hex, hHy⟩ := walk_step he haskey hr hi hH
          have hib : mIs P w s'.heap k' v' := his _ (List.mem_of_getElem? hkv)
          rw [hex]
          dsimp only
          by_cases hh : (mHash P w k' == mHash P w (.inl x)) = true
          · rw [if_pos hh]
            refine wpAny_bind (wpAny_dictEpoch ho hd (wpAny_bind (m_eq (x := k') (y := .inl x) hu hib hkey (wpAny_bind (wpAny_dictEpoch ho hd ?_)))))
            show wpAny _ _ (if (ep != ep) = true then _ else _) _ E _
            rw [if_neg (by simp)]
            by_cases hkk : k' = .inl x
            · rw [decide_eq_true hkk]
              subst hkk
              exact wpAny_bind (wpAny_rule (wpAny_pure (wpAny_pure (hsome y _ hkv))))
            · rw [decide_eq_false hkk]
              exact wpAny_bind (wpAny_rule (wpAny_pure ⟨rfl, rfl, y + 1, hr2, hlt, hHy.pass hkv hkk⟩))
          · rw [if_neg hh]
            refine wpAny_pure ⟨rfl, rfl, y + 1, hr2, hlt, hHy.pass hkv ?_⟩
            intro hkk
            rw [hkk] at hh; simp at hh
        · rintro b s' ⟨rfl, rfl, i, hr, hi, hH⟩
          rcases walk_end he haskey hr hi hH with ⟨_, hno⟩ | ⟨j, p, e, hj⟩
          · exact wpAny_pure (hnone hno)
          · cases e
      · rw [if_neg hv]
        by_cases hone : (((placesWithHash es.size (fun i => es[i]?.map (·.hash)) (mHash P w (.inl x))).filterMap (fun i => es[i]?.map (·.key))) == [Value.str x t]) = true
        · rw [if_pos hone]
          refine wpAny_bind (wpAny_pure ?_)
          rw [if_neg (by simp)]
          refine wpAny_bind ?_
          refine wpAny_forIn_list _
            (fun rest b s' => s' = s ∧ ∃ i hit, b = (none, hit) ∧ rest = (List.range' i (es.size - i)).filter (fun i => (es[i]?.map (·.hash)) == some (mHash P w (.inl x))) ∧ i ≤ es.size ∧ Hit xs (.inl x) i hit) _ ?_ ?_ _ _
            ⟨rfl, 0, none, rfl, by rw [placesWithHash, List.range_eq_range', Nat.sub_zero], Nat.zero_le _, .inl ⟨rfl, fun _ _ z => absurd z (Nat.not_lt_zero _)⟩⟩
          · rintro y rest b s' ⟨rfl, i, hit, rfl, hr, hi, hH⟩
            obtain ⟨hlt, hr2, k', v', u', hkv, hex, hHy⟩ := walk_step he haskey hr hi hH
            have hib : mIs P w s'.heap k' v' := his _ (List.mem_of_getElem? hkv)
            rw [hex]
            dsimp only
            by_cases hh : (mHash P w k' == mHash P w (.inl x)) = true
            · rw [if_pos hh]
              refine wpAny_bind (wpAny_dictEpoch ho hd (wpAny_bind (m_eq (x := k') (y := .inl x) hu hib hkey (wpAny_bind (wpAny_dictEpoch ho hd ?_)))))
              show wpAny _ _ (if (ep != ep) = true then _ else _) _ E _
              rw [if_neg (by simp)]
              by_cases hkk : k' = .inl x
              · rw [decide_eq_true hkk]
                subst hkk
                have hno := hHy.fresh hn hkv
                subst hno
                first | rw [if_pos rfl] | skip
                simp only [Option.isSome_none, Bool.false_eq_true, if_false]
                first | refine wpAny_bind (wpAny_pure ?_) | skip
                refine wpAny_bind (wpAny_rule ?_)
                split
                · exact wpAny_pure (wpAny_pure (hsome y _ hkv))
                · exact wpAny_pure ⟨rfl, y + 1, some y, rfl, hr2, hlt, .inr ⟨y, _, rfl, Nat.lt_succ_self y, hkv⟩⟩
              · rw [decide_eq_false hkk]
                simp only [Bool.false_eq_true, if_false]
                refine wpAny_bind (wpAny_rule ?_)
                first | rw [if_neg (by simp)] | skip
                first
                  | exact wpAny_pure ⟨rfl, y + 1, hit, rfl, hr2, hlt, hHy.pass hkv hkk⟩
                  | exact wpAny_bind (wpAny_pure (wpAny_pure ⟨rfl, y + 1, hit, rfl, hr2, hlt, hHy.pass hkv hkk⟩))
            · rw [if_neg hh]
              refine wpAny_pure ⟨rfl, y + 1, hit, rfl, hr2, hlt, hHy.pass hkv ?_⟩
              intro hkk
              rw [hkk] at hh; simp at hh
          · rintro b s' ⟨rfl, i, hit, rfl, hr, hi, hH⟩
            rcases walk_end he haskey hr hi hH with ⟨rfl, hno⟩ | ⟨j, p, rfl, hj⟩
            · exact wpAny_pure (hnone hno)
            · exact wpAny_pure (hsome j p hj)
        · rw [if_neg hone]
          refine wpAny_bind (m_tell hkey hst ?_)
          rw [if_neg (by simp)]
          refine wpAny_bind ?_
          refine wpAny_forIn_list _
            (fun rest b s' => s' = s ∧ ∃ i hit, b = (none, hit) ∧ rest = (List.range' i (es.size - i)).filter (fun i => (es[i]?.map (·.hash)) == some (mHash P w (.inl x))) ∧ i ≤ es.size ∧ Hit xs (.inl x) i hit) _ ?_ ?_ _ _
            ⟨rfl, 0, none, rfl, by rw [placesWithHash, List.range_eq_range', Nat.sub_zero], Nat.zero_le _, .inl ⟨rfl, fun _ _ z => absurd z (Nat.not_lt_zero _)⟩⟩
          · rintro y rest b s' ⟨rfl, i, hit, rfl, hr, hi, hH⟩
            obtain ⟨hlt, hr2, k', v', u', hkv, hex, hHy⟩ := walk_step he haskey hr hi hH
            have hib : mIs P w s'.heap k' v' := his _ (List.mem_of_getElem? hkv)
            rw [hex]
            dsimp only
            by_cases hh : (mHash P w k' == mHash P w (.inl x)) = true
            · rw [if_pos hh]
              refine wpAny_bind (wpAny_dictEpoch ho hd (wpAny_bind (m_eq (x := k') (y := .inl x) hu hib hkey (wpAny_bind (wpAny_dictEpoch ho hd ?_)))))
              show wpAny _ _ (if (ep != ep) = true then _ else _) _ E _
              rw [if_neg (by simp)]
              by_cases hkk : k' = .inl x
              · rw [decide_eq_true hkk]
                subst hkk
                have hno := hHy.fresh hn hkv
                subst hno
                first | rw [if_pos rfl] | skip
                simp only [Option.isSome_none, Bool.false_eq_true, if_false]
                first | refine wpAny_bind (wpAny_pure ?_) | skip
                refine wpAny_bind (wpAny_rule ?_)
                split
                · exact wpAny_pure (wpAny_pure (hsome y _ hkv))
                · exact wpAny_pure ⟨rfl, y + 1, some y, rfl, hr2, hlt, .inr ⟨y, _, rfl, Nat.lt_succ_self y, hkv⟩⟩
              · rw [decide_eq_false hkk]
                simp only [Bool.false_eq_true, if_false]
                refine wpAny_bind (wpAny_rule ?_)
                first | rw [if_neg (by simp)] | skip
                first
                  | exact wpAny_pure ⟨rfl, y + 1, hit, rfl, hr2, hlt, hHy.pass hkv hkk⟩
                  | exact wpAny_bind (wpAny_pure (wpAny_pure ⟨rfl, y + 1, hit, rfl, hr2, hlt, hHy.pass hkv hkk⟩))
            · rw [if_neg hh]
              refine wpAny_pure ⟨rfl, y + 1, hit, rfl, hr2, hlt, hHy.pass hkv ?_⟩
              intro hkk
              rw [hkk] at hh; simp at hh
          · rintro b s' ⟨rfl, i, hit, rfl, hr, hi, hH⟩
            rcases walk_end he haskey hr hi hH with ⟨rfl, hno⟩ | ⟨j, p, rfl, hj⟩
            · exact wpAny_pure (hnone hno)
            · exact wpAny_pure (hsome j p hj)
  | inr ks =>
    obtain ⟨a, rfl, hka⟩ := id hkey
    have hany : ¬ (es.any fun e => e.key == Value.ref a && e.hash != mHash P w (.inr ks)) = true := by
      intro z
      rw [← Array.any_toList, List.any_eq_true] at z
      obtain ⟨e, hin, hc⟩ := z
      obtain ⟨y, hy, rfl⟩ := ent_mem he (Array.mem_toList_iff.mp hin)
      simp only [mEnt, Bool.and_eq_true, beq_iff_eq, bne_iff_ne, ne_eq] at hc
      have q := his y hy
      rw [hc.1] at q
      exact hc.2 (by rw [mIs_inj q hkey])
    unfold dictFind
    try with_reducible refine wpAny_holding ?_
    refine wpAny_bind (wpAny_dictEntries ho hd ?_)
    dsimp only
    rw [if_neg (show ¬ ((Value.ref a :: (placesWithHash es.size (fun i => es[i]?.map (·.hash)) (mHash P w (.inr ks))).filterMap (fun i => es[i]?.map (·.key))).all carriedByValue) = true by simp [carriedByValue])]
    rw [if_neg hany]
    by_cases hone : (((placesWithHash es.size (fun i => es[i]?.map (·.hash)) (mHash P w (.inr ks))).filterMap (fun i => es[i]?.map (·.key))) == [Value.ref a]) = true
    · rw [if_pos hone]
      refine wpAny_bind (wpAny_pure ?_)
      rw [if_neg (by simp)]
      refine wpAny_bind ?_
      refine wpAny_forIn_list _
        (fun rest b s' => s' = s ∧ ∃ i hit, b = (none, hit) ∧ rest = (List.range' i (es.size - i)).filter (fun i => (es[i]?.map (·.hash)) == some (mHash P w (.inr ks))) ∧ i ≤ es.size ∧ Hit xs (.inr ks) i hit) _ ?_ ?_ _ _
        ⟨rfl, 0, none, rfl, by rw [placesWithHash, List.range_eq_range', Nat.sub_zero], Nat.zero_le _, .inl ⟨rfl, fun _ _ z => absurd z (Nat.not_lt_zero _)⟩⟩
      · rintro y rest b s' ⟨rfl, i, hit, rfl, hr, hi, hH⟩
        obtain ⟨hlt, hr2, k', v', u', hkv, hex, hHy⟩ := walk_step he haskey hr hi hH
        have hib : mIs P w s'.heap k' v' := his _ (List.mem_of_getElem? hkv)
        rw [hex]
        dsimp only
        by_cases hh : (mHash P w k' == mHash P w (.inr ks)) = true
        · rw [if_pos hh]
          refine wpAny_bind (wpAny_dictEpoch ho hd (wpAny_bind (m_eq (x := k') (y := .inr ks) hu hib hkey (wpAny_bind (wpAny_dictEpoch ho hd ?_)))))
          show wpAny _ _ (if (ep != ep) = true then _ else _) _ E _
          rw [if_neg (by simp)]
          by_cases hkk : k' = .inr ks
          · rw [decide_eq_true hkk]
            subst hkk
            have hno := hHy.fresh hn hkv
            subst hno
            first | rw [if_pos rfl] | skip
            simp only [Option.isSome_none, Bool.false_eq_true, if_false]
            first | refine wpAny_bind (wpAny_pure ?_) | skip
            refine wpAny_bind (wpAny_rule ?_)
            split
            · exact wpAny_pure (wpAny_pure (hsome y _ hkv))
            · exact wpAny_pure ⟨rfl, y + 1, some y, rfl, hr2, hlt, .inr ⟨y, _, rfl, Nat.lt_succ_self y, hkv⟩⟩
          · rw [decide_eq_false hkk]
            simp only [Bool.false_eq_true, if_false]
            refine wpAny_bind (wpAny_rule ?_)
            first | rw [if_neg (by simp)] | skip
            first
              | exact wpAny_pure ⟨rfl, y + 1, hit, rfl, hr2, hlt, hHy.pass hkv hkk⟩
              | exact wpAny_bind (wpAny_pure (wpAny_pure ⟨rfl, y + 1, hit, rfl, hr2, hlt, hHy.pass hkv hkk⟩))
        · rw [if_neg hh]
          refine wpAny_pure ⟨rfl, y + 1, hit, rfl, hr2, hlt, hHy.pass hkv ?_⟩
          intro hkk
          rw [hkk] at hh; simp at hh
      · rintro b s' ⟨rfl, i, hit, rfl, hr, hi, hH⟩
        rcases walk_end he haskey hr hi hH with ⟨rfl, hno⟩ | ⟨j, p, rfl, hj⟩
        · exact wpAny_pure (hnone hno)
        · exact wpAny_pure (hsome j p hj)
    · rw [if_neg hone]
      refine wpAny_bind (m_tell hkey hst ?_)
      rw [if_neg (by simp)]
      refine wpAny_bind ?_
      refine wpAny_forIn_list _
        (fun rest b s' => s' = s ∧ ∃ i hit, b = (none, hit) ∧ rest = (List.range' i (es.size - i)).filter (fun i => (es[i]?.map (·.hash)) == some (mHash P w (.inr ks))) ∧ i ≤ es.size ∧ Hit xs (.inr ks) i hit) _ ?_ ?_ _ _
        ⟨rfl, 0, none, rfl, by rw [placesWithHash, List.range_eq_range', Nat.sub_zero], Nat.zero_le _, .inl ⟨rfl, fun _ _ z => absurd z (Nat.not_lt_zero _)⟩⟩
      · rintro y rest b s' ⟨rfl, i, hit, rfl, hr, hi, hH⟩
        obtain ⟨hlt, hr2, k', v', u', hkv, hex, hHy⟩ := walk_step he haskey hr hi hH
        have hib : mIs P w s'.heap k' v' := his _ (List.mem_of_getElem? hkv)
        rw [hex]
        dsimp only
        by_cases hh : (mHash P w k' == mHash P w (.inr ks)) = true
        · rw [if_pos hh]
          refine wpAny_bind (wpAny_dictEpoch ho hd (wpAny_bind (m_eq (x := k') (y := .inr ks) hu hib hkey (wpAny_bind (wpAny_dictEpoch ho hd ?_)))))
          show wpAny _ _ (if (ep != ep) = true then _ else _) _ E _
          rw [if_neg (by simp)]
          by_cases hkk : k' = .inr ks
          · rw [decide_eq_true hkk]
            subst hkk
            have hno := hHy.fresh hn hkv
            subst hno
            first | rw [if_pos rfl] | skip
            simp only [Option.isSome_none, Bool.false_eq_true, if_false]
            first | refine wpAny_bind (wpAny_pure ?_) | skip
            refine wpAny_bind (wpAny_rule ?_)
            split
            · exact wpAny_pure (wpAny_pure (hsome y _ hkv))
            · exact wpAny_pure ⟨rfl, y + 1, some y, rfl, hr2, hlt, .inr ⟨y, _, rfl, Nat.lt_succ_self y, hkv⟩⟩
          · rw [decide_eq_false hkk]
            simp only [Bool.false_eq_true, if_false]
            refine wpAny_bind (wpAny_rule ?_)
            first | rw [if_neg (by simp)] | skip
            first
              | exact wpAny_pure ⟨rfl, y + 1, hit, rfl, hr2, hlt, hHy.pass hkv hkk⟩
              | exact wpAny_bind (wpAny_pure (wpAny_pure ⟨rfl, y + 1, hit, rfl, hr2, hlt, hHy.pass hkv hkk⟩))
        · rw [if_neg hh]
          refine wpAny_pure ⟨rfl, y + 1, hit, rfl, hr2, hlt, hHy.pass hkv ?_⟩
          intro hkk
          rw [hkk] at hh; simp at hh
      · rintro b s' ⟨rfl, i, hit, rfl, hr, hi, hH⟩
        rcases walk_end he haskey hr hi hH with ⟨rfl, hno⟩ | ⟨j, p, rfl, hj⟩
        · exact wpAny_pure (hnone hno)
        · exact wpAny_pure (hsome j p hj)
end
end Own
set_option Elab.async false
set_option linter.all false
set_option maxRecDepth 100000
set_option maxHeartbeats 2000000
/-! a dict with texts and tuples among its keys: read and written -/
namespace Own
open PySem PySem.Spec PyProof.Rows L2
section
variable (P : Program) (w : World)
structure MD (h : Heap) (d : Addr) (xs : List (MK × Value × Value)) : Prop where
  ex : ∃ o es ep, h.get? d = some o ∧ o.ExactDict ∧ o.data = .dict es ep ∧ es.toList = xs.map (mEnt P w)
  is : ∀ y ∈ xs, mIs P w h y.1 y.2.1
  nd : (xs.map (·.1)).Nodup
end
section
variable {P : Program} {w : World} {A : Around} {E : Value → Shared → Prop} {s : Shared} {d : Addr} {xs : List (MK × Value × Value)} {k : MK} {key : Value}
theorem MD.typeIs (hm : MD P w s.heap d xs) : s.TypeIs (.ref d) "dict" := by
  obtain ⟨o, _, _, ho, hc, _⟩ := hm.ex
  exact ⟨o, ho, hc.1⟩
theorem m_get {Q : Option Value → Shared → Prop} (hu : A.units < cLine) (hkey : mIs P w s.heap k key) (hm : MD P w s.heap d xs)
    (hno : (∀ (j : Nat) (p : Value × Value), xs[j]? ≠ some (k, p)) → Q none { s with toks := s.toks + mDraws k }) (hyes : ∀ (j : Nat) (p : Value × Value), xs[j]? = some (k, p) → Q (some p.2) { s with toks := s.toks + mDraws k }) : wpAny (model P w) A (dictGet d key) Q E s := by
  obtain ⟨o, es, ep, ho, _, hd, he⟩ := hm.ex
  unfold dictGet
  try with_reducible refine wpAny_holding ?_
  refine wpAny_bind (m_hash hu hkey (wpAny_bind (m_find (s := { s with toks := s.toks + mDraws k }) hu hkey ho hd he hm.is hm.nd (fun z => ?_) fun j p hj => ?_)))
  · exact wpAny_pure (hno z)
  · refine wpAny_bind (wpAny_dictEntries (s := { s with toks := s.toks + mDraws k }) ho hd ?_)
    rw [ent_at he j, hj]
    exact wpAny_pure (hyes j p hj)
theorem m_set {v : Value} {Q : Unit → Shared → Prop} (hu : A.units < cLine) (hkey : mIs P w s.heap k key) (hm : MD P w s.heap d xs) (hsz : xs.length ≤ sizeLine)
    (hnew : (∀ (j : Nat) (p : Value × Value), xs[j]? ≠ some (k, p)) → ∀ h', MD P w h' d (xs ++ [(k, key, v)]) → Heap.SameBut d s.heap h' → Q () { s with heap := h', toks := s.toks + mDraws k })
    (hold : ∀ (j : Nat) (p : Value × Value), xs[j]? = some (k, p) → ∀ h', MD P w h' d (xs.modify j fun y => (y.1, y.2.1, v)) → Heap.SameBut d s.heap h' → Q () { s with heap := h', toks := s.toks + mDraws k }) :
    wpAny (model P w) A (dictSet d key v) Q E s := by
  obtain ⟨o, es, ep, ho, hc, hd, he⟩ := hm.ex
  unfold dictSet
  try with_reducible refine wpAny_holding ?_
  refine wpAny_bind (m_hash hu hkey ?_)
  unfold dictSetHashed
  try with_reducible refine wpAny_holding ?_
  refine wpAny_bind (m_find (s := { s with toks := s.toks + mDraws k }) hu hkey ho hd he hm.is hm.nd (fun hno => ?_) fun j p hj => ?_)
  · have hnot : k ∉ xs.map (·.1) := fun m => by
      obtain ⟨y, hy, e⟩ := List.mem_map.mp m
      obtain ⟨j, hj, ej⟩ := List.getElem_of_mem hy
      exact hno j y.2 (by rw [List.getElem?_eq_getElem hj, ej, ← e])
    refine wpAny_bind (wpAny_rule (wpAny_updateDictKeys (hz := by have e := ent_size he; omega) (s := { s with toks := s.toks + mDraws k }) ho hd (hnew hno _ ⟨⟨_, _, ep + 1, Heap.get?_update_self _ ho (Obj.isFreed_of_dict (Obj.data_mapDictKeys hd _)),
      hc.mapDictKeys _, Obj.data_mapDictKeys hd _, ?_⟩, ?_, ?_⟩ (Heap.SameBut.update ..))))
    · simp [he, mEnt]
    · intro y hy
      rcases List.mem_append.mp hy with hy | hy
      · exact mIs_keeps (hm.is y hy) ho hd (Heap.SameBut.update ..)
      · rw [List.mem_singleton.mp hy]
        exact mIs_keeps hkey ho hd (Heap.SameBut.update ..)
    · rw [List.map_append, List.nodup_append]
      refine ⟨hm.nd, by simp, fun a ha b hb e => ?_⟩
      rw [List.map_cons, List.map_nil, List.mem_singleton] at hb
      exact hnot (by have e2 : b = k := hb; rw [← e2, ← e]; exact ha)
  · refine wpAny_bind (wpAny_rule (wpAny_bind (wpAny_updateDict (s := { s with toks := s.toks + mDraws k }) ho hd (wpAny_point (hold j p hj _ ⟨⟨_, _, ep, Heap.get?_update_self _ ho (Obj.isFreed_of_dict (Obj.data_mapDict hd _)),
      hc.mapDict _, Obj.data_mapDict hd _, ?_⟩, ?_, ?_⟩ (Heap.SameBut.update ..))))))
    · rw [Array.toList_modify, he]
      refine List.ext_getElem? fun i => ?_
      rw [List.getElem?_modify, List.getElem?_map, List.getElem?_map, List.getElem?_modify]
      cases hx : xs[i]? with
      | none => rfl
      | some y =>
        by_cases e : j = i
        · simp [e, mEnt]
        · simp [e]
    · intro y hy
      obtain ⟨i, hi, ei⟩ := List.getElem_of_mem hy
      have e1 : (xs.modify j fun y => (y.1, y.2.1, v))[i]? = some y := by rw [List.getElem?_eq_getElem hi, ei]
      rw [List.getElem?_modify] at e1
      cases hx : xs[i]? with
      | none => rw [hx] at e1; cases e1
      | some z =>
        rw [hx] at e1
        have hz := hm.is z (List.mem_of_getElem? hx)
        have hz2 := mIs_keeps hz ho hd (Heap.SameBut.update (h := s.heap) (a := d) (f := Obj.mapDict (·.modify j fun e => { e with val := v })))
        have e2 : (if j = i then (z.1, z.2.1, v) else z) = y := Option.some.inj e1
        by_cases e : j = i
        · rw [if_pos e] at e2
          rw [← e2]
          exact hz2
        · rw [if_neg e] at e2
          rw [← e2]
          exact hz2
    · have : (xs.modify j fun y => (y.1, y.2.1, v)).map (·.1) = xs.map (·.1) := by
        refine List.ext_getElem? fun i => ?_
        rw [List.getElem?_map, List.getElem?_map, List.getElem?_modify]
        cases xs[i]? with
        | none => rfl
        | some y => by_cases e : j = i <;> simp [e]
      rw [this]; exact hm.nd
end
end Own
set_option Elab.async false
set_option linter.all false
set_option maxRecDepth 100000
set_option maxHeartbeats 2000000
/-! the hand layer's rules for such a dict -/
namespace Own
open PySem PySem.Spec PyProof.Rows L2
def MR (x : MK × V × V) (v : MK × Value × Value) : Prop := x.1 = v.1 ∧ RelV x.2.1 v.2.1 ∧ RelV x.2.2 v.2.2
def MxO (P : Program) (w : World) (d : Addr) (xs : List (MK × V × V)) : HO := .ext fun h => xs.length ≤ sizeLine ∧ (d == sysModules) = false ∧ (xs.map (·.1)).Nodup ∧
  ∃ (vs : List (MK × Value × Value)) (o : Obj) (es : Array DictEntry) (ep : Nat), Paired MR xs vs ∧ h.get? d = some o ∧ o.ExactDict ∧ o.data = .dict es ep ∧ es.toList = vs.map (mEnt P w)
def KeyAt (H : Hp) (x : MK × V × V) : Prop := match x.1 with
  | .inl z => x.2.1 = .str z
  | .inr ks => ∃ a : Addr, x.2.1 = .ref a ∧ H a = some (.tup (ks.map kV))
def KeyL (K : PySem.W.Frag) (H : Hp) (y : V) : MK → Prop
  | .inl z => y = .str z
  | .inr ks => ∃ a : Addr, y = .ref a ∧ SqT K H a (ks.map kV)
structure MDic (P : Program) (w : World) (H : Hp) (d : Addr) (m : List (MK × V)) : Prop where
  ex : ∃ xs, H d = some (MxO P w d xs) ∧ (∀ x ∈ xs, KeyAt H x) ∧ m = xs.map fun x => (x.1, x.2.2)
theorem KeyAt.up {H H' : Hp} {x : MK × V × V} (h : KeyAt H x) (s : ∀ a ys, H a = some (.tup ys) → H' a = some (.tup ys)) : KeyAt H' x := by
  unfold KeyAt at h ⊢
  split at h
  · exact h
  · obtain ⟨a, e1, e2⟩ := h
    exact ⟨a, e1, s _ _ e2⟩
theorem MDic.up {P : Program} {w : World} {H H' : Hp} {d : Addr} {m : List (MK × V)} (h : MDic P w H d m) (s : Same H H') : MDic P w H' d m := by
  obtain ⟨xs, h1, h2, h3⟩ := h.ex
  exact ⟨xs, s _ _ h1, fun x hx => (h2 x hx).up fun a ys e => s _ _ e, h3⟩
section
variable {P : Program} {w : World}
theorem mr_keys : ∀ {xs : List (MK × V × V)} {vs : List (MK × Value × Value)}, Paired MR xs vs → vs.map (·.1) = xs.map (·.1)
  | _, _, .nil => rfl
  | _, _, .cons a b => by rw [List.map_cons, List.map_cons, mr_keys b, a.1]
theorem mr_at : ∀ {xs : List (MK × V × V)} {vs : List (MK × Value × Value)} {i : Nat} {v : MK × Value × Value}, Paired MR xs vs → vs[i]? = some v → ∃ x, xs[i]? = some x ∧ MR x v
  | _, _, 0, v, .cons a _, h => ⟨_, rfl, by rw [← Option.some.inj h]; exact a⟩
  | _, _, i + 1, v, .cons _ b, h => mr_at (i := i) b h
  | _, _, i, v, .nil, h => by simp at h
theorem mr_at' : ∀ {xs : List (MK × V × V)} {vs : List (MK × Value × Value)} {i : Nat} {x : MK × V × V}, Paired MR xs vs → xs[i]? = some x → ∃ v, vs[i]? = some v ∧ MR x v
  | _, _, 0, x, .cons a _, h => ⟨_, rfl, by rw [← Option.some.inj h]; exact a⟩
  | _, _, i + 1, x, .cons _ b, h => mr_at' (i := i) b h
  | _, _, i, x, .nil, h => by simp at h
theorem mr_snoc : ∀ {xs : List (MK × V × V)} {vs : List (MK × Value × Value)} {x : MK × V × V} {v : MK × Value × Value}, Paired MR xs vs → MR x v → Paired MR (xs ++ [x]) (vs ++ [v])
  | _, _, _, _, .nil, h => .cons h .nil
  | _, _, _, _, .cons a b, h => .cons a (mr_snoc b h)
theorem mr_mod {y : V} {u : Value} (ry : RelV y u) : ∀ {xs : List (MK × V × V)} {vs : List (MK × Value × Value)} (j : Nat), Paired MR xs vs → Paired MR (xs.modify j fun x => (x.1, x.2.1, y)) (vs.modify j fun x => (x.1, x.2.1, u))
  | _, _, _, .nil => by simpa using .nil
  | _, _, 0, .cons a b => .cons ⟨a.1, a.2.1, ry⟩ b
  | _, _, j + 1, .cons a b => .cons a (mr_mod ry j b)
theorem tup_is {h : Heap} {ks : List L2.Key} {a : Addr} {its : List Value} (r : Vals (ks.map kV) its) (ht : IsTup h a its.toArray) : (tupleKind (mixKind P w)).is h ks a := by
  obtain ⟨o, h1, h2, n, h3⟩ := ht
  exact ⟨o, its.toArray, n, h1, h2, h3, by simpa using items_are r⟩
section
variable {X : Cx} {pins : List (Addr × Obj)} {σ : L2.St} {H : Hp} {s : Shared} {d : Addr}
theorem key_real (I : L2.Inv X pins σ H s) {y : V} {u : Value} {k : MK} (hk : KeyL X.K H y k) (ry : RelV y u) : mIs X.prog X.w s.heap k u := by
  cases k with
  | inl z =>
    have e : y = .str z := hk
    subst e
    exact ry
  | inr ks =>
    obtain ⟨a, e, hs⟩ := hk
    subst e
    obtain rfl : u = Value.ref a := ry
    obtain ⟨its, r, ht, _⟩ := I.tuple hs
    exact ⟨a, rfl, tup_is r ht⟩
theorem keyAt_real (I : L2.Inv X pins σ H s) {x : MK × V × V} {v : MK × Value × Value} (hk : KeyAt H x) (r : MR x v) : mIs X.prog X.w s.heap v.1 v.2.1 := by
  obtain ⟨k, y, z⟩ := x
  obtain ⟨k2, u, z2⟩ := v
  obtain ⟨e, r1, _⟩ := r
  cases e
  cases k with
  | inl z =>
    have e : y = .str z := hk
    subst e
    exact r1
  | inr ks =>
    obtain ⟨a, e, hs⟩ := (show ∃ a : Addr, y = .ref a ∧ H a = some (.tup (ks.map kV)) from hk)
    subst e
    obtain rfl : u = Value.ref a := r1
    exact ⟨a, rfl, key_of I.hok hs⟩
theorem md_of (I : L2.Inv X pins σ H s) {xs : List (MK × V × V)} (h1 : H d = some (MxO X.prog X.w d xs)) (h2 : ∀ x ∈ xs, KeyAt H x) :
    xs.length ≤ sizeLine ∧ (d == sysModules) = false ∧ (xs.map (·.1)).Nodup ∧ ∃ vs, Paired MR xs vs ∧ MD X.prog X.w s.heap d vs := by
  obtain ⟨hl, hs, hn, vs, o, es, ep, hp, ho, hc, hd, he⟩ := (show ObjOk X.prog X.w H s.heap d (MxO X.prog X.w d xs) from I.hok d _ h1).1
  refine ⟨hl, hs, hn, vs, hp, ⟨o, es, ep, ho, hc, hd, he⟩, fun v hv => ?_, by rw [mr_keys hp]; exact hn⟩
  obtain ⟨i, hi, e⟩ := List.getElem_of_mem hv
  obtain ⟨x, hx, r⟩ := mr_at hp (by rw [List.getElem?_eq_getElem hi, e])
  exact keyAt_real I (h2 x (List.mem_of_getElem? hx)) r
theorem mx_ok {h : Heap} {xs : List (MK × V × V)} {vs : List (MK × Value × Value)} (hl : xs.length ≤ sizeLine) (hs : (d == sysModules) = false) (hn : (xs.map (·.1)).Nodup) (hp : Paired MR xs vs)
    (ex : ∃ o es ep, h.get? d = some o ∧ o.ExactDict ∧ o.data = .dict es ep ∧ es.toList = vs.map (mEnt X.prog X.w)) : ObjOk X.prog X.w H h d (MxO X.prog X.w d xs) := by
  obtain ⟨o, es, ep, ho, hc, hd, he⟩ := ex
  refine ⟨⟨hl, hs, hn, vs, o, es, ep, hp, ho, hc, hd, he⟩, ⟨o, ho⟩, fun h1 h2 z k => ?_⟩
  obtain ⟨a1, a2, a3, vs1, o1, es1, ep1, b1, b2, b3, b4, b5⟩ := z
  exact ⟨a1, a2, a3, vs1, o1, es1, ep1, b1, k _ b2, b3, b4, b5⟩
/-- what stands at a place of the pairs -/
theorem val_of {xs : List (MK × V × V)} (hn : (xs.map (·.1)).Nodup) {j : Nat} {x : MK × V × V} (h : xs[j]? = some x) : valV (xs.map fun x => (x.1, x.2.2)) x.1 = some x.2.2 := by
  induction xs generalizing j with
  | nil => simp at h
  | cons y r ih =>
    rw [List.map_cons, List.nodup_cons] at hn
    cases j with
    | zero =>
      cases h
      exact valV_pos rfl
    | succ j =>
      have hm : x.1 ∈ r.map (·.1) := List.mem_map.mpr ⟨x, List.mem_of_getElem? (show r[j]? = some x from h), rfl⟩
      rw [List.map_cons, valV_neg (fun e : y.1 = x.1 => hn.1 (by rw [e]; exact hm))]
      exact ih hn.2 (show r[j]? = some x from h)
theorem val_none {xs : List (MK × V × V)} {k : MK} (h : ∀ (j : Nat) (p : V × V), xs[j]? ≠ some (k, p)) : valV (xs.map fun x => (x.1, x.2.2)) k = none := by
  induction xs with
  | nil => rfl
  | cons y r ih =>
    rw [List.map_cons, valV_neg (fun e : y.1 = k => h 0 y.2 (by rw [← e]; rfl))]
    exact ih fun j p e => h (j + 1) p e
end
end
end Own
set_option Elab.async false
set_option linter.all false
set_option maxRecDepth 100000
set_option maxHeartbeats 2000000
/-! d[k], k in d, d[k] = v; a dict of texts told as such a dict -/
namespace Own
open PySem PySem.Spec PyProof.Rows L2
section
variable {X : Cx} {pins : List (Addr × Obj)} {σ : L2.St} {H : Hp} {s : Shared} {d : Addr} {m : List (MK × V)} {k : MK} {y : V} {u : Value} {A : Around} {E : Value → Shared → Prop}
theorem mx_getItem {Q : Value → Shared → Prop} {v : V} (hu : A.units + 1 < cLine) (I : L2.Inv X pins σ H s) (g : MDic X.prog X.w H d m) (hk : KeyL X.K H y k) (ry : RelV y u) (hv : valV m k = some v) (h : ∀ w' s', L2.Inv X pins σ H s' → RelV v w' → Q w' s') :
    wpAny (model X.prog X.w) A (getItem (.ref d) u) Q E s := by
  obtain ⟨xs, h1, h2, rfl⟩ := g.ex
  obtain ⟨_, _, hn, vs, hp, hm⟩ := md_of I h1 h2
  unfold getItem
  try with_reducible refine wpAny_holding ?_
  refine wpAny_bind (wpAny_sequenceKey hm.typeIs (by decide) ?_)
  refine wpAny_bind (wpAny_callSpecial?_slot (name := Str.ofString "__getitem__") hm.typeIs PySem.F.slot_dict_getitem (wpAny_call_entry PySem.F.slot_dict_getitem hm.typeIs PySem.F.entry_dict_getitem ?_ (PySem.F.args_dict_getitem_2 _ _)))
  show wpAny _ _ (dictGet d u >>= _) _ _ s
  refine wpAny_bind (m_get (A := A.in1) hu (key_real I hk ry) hm (fun z => ?_) fun j p hj => ?_)
  · rw [val_none fun j p e => ?_] at hv
    · cases hv
    · obtain ⟨v2, e2, r⟩ := mr_at' hp e
      obtain ⟨k2, q⟩ := v2
      exact z j q (by rw [e2, show k2 = k from r.1.symm])
  · obtain ⟨x, hx, r⟩ := mr_at hp hj
    have e := val_of hn hx
    rw [show x.1 = k from r.1] at e
    rw [hv] at e
    have e2 : v = x.2.2 := Option.some.inj e
    exact wpAny_pure ⟨p.2, rfl, wpAny_pure (h _ _ (I.tok _) (by rw [e2]; exact r.2.2))⟩
theorem mx_in {Q : Value → Shared → Prop} (hu : A.units + 1 < cLine) (I : L2.Inv X pins σ H s) (g : MDic X.prog X.w H d m) (hk : KeyL X.K H y k) (ry : RelV y u) (h : ∀ s', L2.Inv X pins σ H s' → Q (.bool (valV m k).isSome) s') :
    wpAny (model X.prog X.w) A (compareOp .In u (.ref d)) Q E s := by
  obtain ⟨xs, h1, h2, rfl⟩ := g.ex
  obtain ⟨_, hsm, hn, vs, hp, hm⟩ := md_of I h1 h2
  show wpAny _ _ (do return .bool (← contains (.ref d) u)) Q E s
  refine wpAny_bind ?_
  unfold contains
  try with_reducible refine wpAny_holding ?_
  refine wpAny_bind (wpAny_specialOf hm.typeIs PySem.F.slot_dict_contains.lookup ?_)
  show wpAny _ _ (if (some (Value.builtin "dict.__contains__") == some Value.none) = true then _ else _) _ E s
  rw [if_neg (by rw [beq_builtin_none]; exact Bool.false_ne_true)]
  refine wpAny_bind (wpAny_callSpecialUnlessNone?_slot (name := Str.ofString "__contains__") hm.typeIs PySem.F.slot_dict_contains
    (wpAny_call_entry PySem.F.slot_dict_contains hm.typeIs PySem.F.entry_dict_contains ?_ (PySem.F.args_dict_contains_2 _ _)))
  show wpAny _ _ (dictGet d u >>= _) _ _ s
  refine wpAny_bind (m_get (A := A.in1) hu (key_real I hk ry) hm (fun z => ?_) fun j p hj => ?_)
  · have e0 := val_none (xs := xs) (k := k) fun j p e => by
      obtain ⟨v2, e2, r⟩ := mr_at' hp e
      obtain ⟨k2, q⟩ := v2
      exact z j q (by rw [e2, show k2 = k from r.1.symm])
    rw [e0] at h
    show wpAny _ _ (Builtin.Dict.pendingKey? d u >>= _) _ _ _
    exact wpAny_bind (wpAny_pendingKey_other hsm (wpAny_pure ⟨_, rfl, wpAny_truthy_bool (wpAny_pure (h _ (I.tok _)))⟩))
  · obtain ⟨x, hx, r⟩ := mr_at hp hj
    have e := val_of hn hx
    rw [show x.1 = k from r.1] at e
    rw [e] at h
    show wpAny _ _ (ret (.bool true)) _ _ _
    exact wpAny_pure ⟨_, rfl, wpAny_truthy_bool (wpAny_pure (h _ (I.tok _)))⟩
theorem keyAt_new {k : MK} {y v : V} {H : Hp} (hk : KeyAt H (k, y, v)) : ∀ v', KeyAt H (k, y, v') := fun v' => hk
/-- d[y] = v: what the key is stands in the heap as a tuple of one's own, or is a text -/
theorem mx_setItem {r : Value} {v : V} {Q : Unit → Shared → Prop} (hu : A.units + 1 < cLine) (I : L2.Inv X pins σ H s) (g : MDic X.prog X.w H d m) (hk : KeyL X.K H y k) (hka : KeyAt H (k, y, v)) (hl : m.length < sizeLine) (ry : RelV y u) (rv : RelV v r)
    (h : ∀ o s', MDic X.prog X.w (upd H d o) d (putK m k v) → L2.Inv X pins σ (upd H d o) s' → Q () s') : wpAny (model X.prog X.w) A (setItem (.ref d) u r) Q E s := by
  obtain ⟨xs, h1, h2, rfl⟩ := g.ex
  obtain ⟨hl0, hsm, hn, vs, hp, hm⟩ := md_of I h1 h2
  have hlx : xs.length < sizeLine := by rw [List.length_map] at hl; exact hl
  have hlv : vs.length = xs.length := hp.length.symm
  have keep : ∀ {o : HO} (x : MK × V × V), KeyAt H x → KeyAt (upd H d o) x := fun x z => z.up fun a ys e => by
    rw [upd_ne (ne_of e h1 (fun q => nomatch q))]; exact e
  unfold setItem
  try with_reducible refine wpAny_holding ?_
  refine wpAny_bind (wpAny_sequenceKey hm.typeIs (by decide) ?_)
  refine wpAny_bind (wpAny_callSpecial?_slot (name := Str.ofString "__setitem__") hm.typeIs PySem.F.slot_dict_setitem (wpAny_call_entry PySem.F.slot_dict_setitem hm.typeIs PySem.F.entry_dict_setitem ?_ (PySem.F.args_dict_setitem_3 _ _ _)))
  show wpAny _ _ (Builtin.Dict.notOrdered "__setitem__" ⟨[.ref d, u, r], []⟩ >>= _) _ _ s
  refine wpAny_bind (wpAny_notOrdered_dict hm.typeIs ?_)
  show wpAny _ _ (dictSet d u r >>= _) _ _ s
  have mu : Mut (H d) := by rw [h1]; exact True.intro
  refine wpAny_bind (m_set (A := A.in1) hu (key_real I hk ry) hm (by rw [hlv]; exact hl0) (fun hno h' hm' hs' => wpAny_pure ⟨.none, rfl, wpAny_pure (h (MxO X.prog X.w d (xs ++ [(k, y, v)])) _ ⟨⟨_, upd_same, fun x hx => ?_, ?_⟩⟩ ?_)⟩) fun j p hj h' hm' hs' => wpAny_pure ⟨.none, rfl, wpAny_pure (h (MxO X.prog X.w d (xs.modify j fun x => (x.1, x.2.1, v))) _ ⟨⟨_, upd_same, fun x hx => ?_, ?_⟩⟩ ?_)⟩)
  · rcases List.mem_append.mp hx with hx | hx
    · exact keep _ (h2 x hx)
    · rw [List.mem_singleton.mp hx]; exact keep _ hka
  · have e0 := val_none (xs := xs) (k := k) fun j p e => by
      obtain ⟨v2, e2, r⟩ := mr_at' hp e
      obtain ⟨k2, q⟩ := v2
      exact hno j q (by rw [e2, show k2 = k from r.1.symm])
    rw [putK_new v e0, List.map_append]; rfl
  · have hpn := mr_snoc hp (show MR (k, y, v) (k, u, r) from ⟨rfl, ry, rv⟩)
    have hnn : ((xs ++ [(k, y, v)]).map (·.1)).Nodup := by rw [← mr_keys hpn]; exact hm'.nd
    obtain ⟨o, es, ep, ho, q⟩ := hm'.ex
    exact d_write I mu hs' ⟨o, ho⟩ (mx_ok (by rw [List.length_append, List.length_singleton]; omega) hsm hnn hpn ⟨o, es, ep, ho, q⟩)
  · obtain ⟨i, hi, e⟩ := List.getElem_of_mem hx
    have e1 : (xs.modify j fun x => (x.1, x.2.1, v))[i]? = some x := by rw [List.getElem?_eq_getElem hi, e]
    rw [List.getElem?_modify] at e1
    cases hz : xs[i]? with
    | none => rw [hz] at e1; cases e1
    | some z =>
      rw [hz] at e1
      have e2 : (if j = i then (z.1, z.2.1, v) else z) = x := Option.some.inj e1
      have hzk := h2 z (List.mem_of_getElem? hz)
      by_cases c : j = i
      · rw [if_pos c] at e2
        rw [← e2]; exact keep _ hzk
      · rw [if_neg c] at e2
        rw [← e2]; exact keep _ hzk
  · obtain ⟨x, hx, rx⟩ := mr_at hp hj
    have ek : x.1 = k := rx.1
    have he := val_of hn hx
    rw [ek] at he
    unfold putK
    rw [valV_any, he]
    refine List.ext_getElem? fun i => ?_
    simp only [Option.isSome_some, if_true, List.getElem?_map, List.getElem?_modify]
    cases hz : xs[i]? with
    | none => rfl
    | some z =>
      by_cases c : j = i
      · subst c
        rw [hx] at hz
        cases hz
        simp [ek]
      · have nk : ¬ z.1 = k := fun q => c (by
          have a1 : (xs.map (·.1))[j]? = some k := by rw [List.getElem?_map, hx, ← ek]; rfl
          have a2 : (xs.map (·.1))[i]? = some k := by rw [List.getElem?_map, hz, ← q]; rfl
          obtain ⟨b1, c1⟩ := List.getElem?_eq_some_iff.mp a1
          obtain ⟨b2, c2⟩ := List.getElem?_eq_some_iff.mp a2
          exact (List.getElem_inj hn).mp (c1.trans c2.symm))
        simp [c, nk]
  · have hpn := mr_mod rv j hp
    have hnn : ((xs.modify j fun x => (x.1, x.2.1, v)).map (·.1)).Nodup := by rw [← mr_keys hpn]; exact hm'.nd
    obtain ⟨o, es, ep, ho, q⟩ := hm'.ex
    exact d_write I mu hs' ⟨o, ho⟩ (mx_ok (by rw [List.length_modify]; exact hl0) hsm hnn hpn ⟨o, es, ep, ho, q⟩)
end
end Own
set_option Elab.async false
set_option linter.all false
set_option maxRecDepth 100000
set_option maxHeartbeats 2000000
/-! expressions and statements over such a dict -/
namespace Own
open PySem PySem.Spec PyProof.Rows L2
def tMGet (P : Program) (w : World) (K : PySem.W.Frag) (td ty : TE) : TE := fun σ H Q => td σ H fun x H1 => ty σ H1 fun y H2 => ∃ d m k v, x = .ref d ∧ MDic P w H2 d m ∧ KeyL K H2 y k ∧ valV m k = some v ∧ Q v H2
def tMIn (P : Program) (w : World) (K : PySem.W.Frag) (ty td : TE) : TE := fun σ H Q => ty σ H fun y H1 => td σ H1 fun x H2 => ∃ d m k, x = .ref d ∧ MDic P w H2 d m ∧ KeyL K H2 y k ∧ Q (.bl (valV m k).isSome) H2
def sMPut (P : Program) (w : World) (K : PySem.W.Frag) (td ty tv : TE) : TS := fun D σ H => tv σ H fun v H1 => td σ H1 fun x H2 => ty σ H2 fun y H3 => ∃ d m k, x = .ref d ∧ MDic P w H3 d m ∧ KeyL K H3 y k ∧ KeyAt H3 (k, y, v) ∧ m.length < sizeLine ∧ ∀ o, MDic P w (upd H3 d o) d (putK m k v) → D.nx σ (upd H3 d o)
/-- a dict of texts is told as one with texts and tuples -/
def tMix (P : Program) (w : World) (t : TE) : TE := fun σ H Q => t σ H fun x H1 => ∃ d kvs, x = .ref d ∧ H1 d = some (.dK kvs) ∧ ∃ m : List (Str × V), kvs = m.map (fun q => (.inr q.1, q.2)) ∧ ∀ o, MDic P w (upd H1 d o) d (m.map fun q => (.inl q.1, q.2)) → Q x (upd H1 d o)
section
variable {X : Cx}
theorem md_type {pins : List (Addr × Obj)} {σ : L2.St} {H : Hp} {s : Shared} {d : Addr} {m : List (MK × V)} (I : L2.Inv X pins σ H s) (g : MDic X.prog X.w H d m) : s.TypeIs (.ref d) "dict" := by
  obtain ⟨xs, h1, h2, rfl⟩ := g.ex
  obtain ⟨_, _, _, vs, _, hm⟩ := md_of I h1 h2
  exact hm.typeIs
theorem pe_mget {P : Program} {w : World} {K : PySem.W.Frag} (hP : X.prog = P) (hw : X.w = w) (hK : X.K = K) {o i : Expr} {td ty : TE} {pos : Pos} (hu : X.A.units + 1 < cLine) (ho : PE X o td) (hi : PE X i ty) (hs : NoSl i) : PE X (.Subscript o i pos) (tMGet P w K td ty) := by
  subst hP hw hK
  refine ⟨fun pins s σ H Q I h => ?_⟩
  refine subD_of PySem.F.slot_dict_getitem.lookup hs (thn (ho.run pins s σ H _ I h) fun u s1 ⟨x, H1, I1, rx, q1⟩ => thn (hi.run pins s1 σ H1 _ I1 q1) fun iv s2 ⟨y, H2, I2, ry, d, m, k, v, ex, g, hk, hv, q2⟩ => ?_)
  subst ex
  obtain rfl : u = Value.ref d := rx
  exact ⟨md_type I2 g, mx_getItem hu I2 g hk ry hv fun w' s3 I3 rw' => ⟨v, H2, I3, rw', q2⟩⟩
theorem pc_min {P : Program} {w : World} {K : PySem.W.Frag} (hP : X.prog = P) (hw : X.w = w) (hK : X.K = K) {o i : Expr} {td ty : TE} (hu : X.A.units + 1 < cLine) (hi : PE X i ty) (ho : PE X o td) : PC X .In i o (tMIn P w K ty td) := by
  subst hP hw hK
  refine ⟨fun pins s σ H Q I h => ?_⟩
  refine thn (hi.run pins s σ H _ I h) fun iv s1 ⟨y, H1, I1, ry, q1⟩ => thn (ho.run pins s1 σ H1 _ I1 q1) fun u s2 ⟨x, H2, I2, rx, d, m, k, ex, g, hk, q2⟩ => ?_
  subst ex
  obtain rfl : u = Value.ref d := rx
  exact mx_in hu I2 g hk ry fun s3 I3 => ⟨.bl (valV m k).isSome, H2, I3, rfl, q2⟩
theorem ps_mput {P : Program} {w : World} {K : PySem.W.Frag} (hP : X.prog = P) (hw : X.w = w) (hK : X.K = K) {o i value : Expr} {td ty tv : TE} {pos pos' : Pos} (hu : X.A.units + 1 < cLine) (ho : PE X o td) (hi : PE X i ty) (hv : PE X value tv) (hs : swapsWith value (some (.Subscript o i pos')) pos.line X.env = pure false) :
    PS X (.Assign [.Subscript o i pos'] value pos) (sMPut P w K td ty tv) := by
  subst hP hw hK
  refine ⟨fun pins s σ H D I h => ?_⟩
  refine wpAny_Assign_Subscript (thn (hv.run pins s σ H _ I h) fun r s1 ⟨v, H1, I1, rv, q1⟩ => thn (ho.run pins s1 σ H1 _ I1 q1) fun u s2 ⟨x, H2, I2, rx, q2⟩ => thn (hi.run pins s2 σ H2 _ I2 q2) fun iv s3 ⟨y, H3, I3, ry, d, m, k, ex, g, hk, hka, hl, q3⟩ => ?_) hs
  subst ex
  obtain rfl : u = Value.ref d := rx
  exact mx_setItem hu I3 g hk hka hl ry rv fun o s4 g4 I4 => ⟨σ, _, I4, q3 o g4⟩
theorem mix_key {P : Program} {w : World} {x : Str} {u : Value} (h : (mixKind P w).is (.inr x) u = true) : ∃ t, u = .str x t := by
  rcases keyIs_shape (show keyIs (.inr x) u = true from h) with ⟨i, t, e, _⟩ | ⟨z, t, e, rfl⟩
  · cases e
  · cases e
    exact ⟨t, rfl⟩
theorem ent_key {P : Program} {w : World} {e : DictEntry} {x : Str} {y : V} {v : Value} (h1 : (mixKind P w).is (.inr x) e.key = true) (h2 : e.val = v) (hh : ∃ k, (mixKind P w).is k e.key = true ∧ e.hash = (mixKind P w).hash k) (ry : RelV y v) :
    mEnt P w (.inl x, e.key, e.val) = e ∧ MR (.inl x, .str x, y) (.inl x, e.key, e.val) := by
  obtain ⟨k', b1, b2⟩ := hh
  have ek : k' = .inr x := (mixKind P w).inj _ _ _ b1 h1
  rw [ek] at b2
  refine ⟨?_, rfl, mix_key h1, by rw [h2]; exact ry⟩
  obtain ⟨eh, ekk, ev⟩ := e
  have b3 : eh = (mixKind P w).hash (.inr x) := b2
  rw [b3]
  rfl
theorem pairs_mx {P : Program} {w : World} (m : List (Str × V)) : ∀ {l : List DictEntry} {vs : List (L2.Key × Value)}, Pairs (mixKind P w) l vs → (∀ e ∈ l, ∃ k, (mixKind P w).is k e.key = true ∧ e.hash = (mixKind P w).hash k) → KV (m.map fun q => ((.inr q.1 : L2.Key), q.2)) vs →
    ∃ vs' : List (MK × Value × Value), l = vs'.map (mEnt P w) ∧ Paired MR (m.map fun q => ((.inl q.1 : MK), V.str q.1, q.2)) vs' := by
  induction m with
  | nil =>
    intro l vs hp hk rel
    cases rel
    cases hp
    exact ⟨[], rfl, .nil⟩
  | cons q m ih =>
    intro l vs hp hk rel
    cases rel with
    | @cons _ kv _ rest a b =>
      cases hp with
      | @cons e _ es _ h1 h2 r =>
        obtain ⟨vs', e1, e2⟩ := ih r (fun z hz => hk z (List.mem_cons_of_mem _ hz)) b
        obtain ⟨k, v⟩ := kv
        obtain ⟨a1, a2⟩ := a
        have a3 : k = .inr q.1 := a1.symm
        subst a3
        obtain ⟨z1, z2⟩ := ent_key h1 h2 (hk e (List.mem_cons_self ..)) a2
        exact ⟨(.inl q.1, e.key, e.val) :: vs', by rw [List.map_cons, z1, ← e1], .cons z2 e2⟩
theorem pe_mix {P : Program} {w : World} (hP : X.prog = P) (hw : X.w = w) {e : Expr} {t : TE} (he : PE X e t) : PE X e (tMix P w t) := by
  subst hP hw
  refine ⟨fun pins s σ H Q I h => ?_⟩
  refine thn (he.run pins s σ H _ I h) fun u s1 ⟨x, H1, I1, rx, d, kvs, ex, hd, m, em, q⟩ => ?_
  subst ex em
  obtain ⟨hl, hsm, vs, rel, o, es, ep, ho, hc, hdat, hko, hpr, hnd⟩ := dk_of I1.hok hd
  obtain ⟨vs', e1, e2⟩ := pairs_mx m hpr (fun e he => hko e (Array.mem_toList_iff.mp he)) rel
  have hn : ((m.map fun q => ((.inl q.1 : MK), V.str q.1, q.2)).map (·.1)).Nodup := by
    have h1 : (vs.map (·.1)) = m.map fun q => (.inr q.1 : L2.Key) := by rw [← rel.keys, List.map_map]; rfl
    rw [h1] at hnd
    rw [List.map_map]
    exact List.pairwise_map.mpr ((List.pairwise_map.mp hnd).imp fun n e => n (by rw [show _ = _ from Sum.inl.inj e]))
  have I2 : L2.Inv X pins σ (upd H1 d (MxO X.prog X.w d (m.map fun q => ((.inl q.1 : MK), V.str q.1, q.2)))) s1 :=
    Inv.write (t' := s1.toks) I1 (x := d) (e := d) (by rw [hd]; exact True.intro) (.inl rfl) (fun _ _ _ z => z) ⟨o, ho⟩ (mx_ok (by rw [List.length_map] at hl ⊢; exact hl) hsm hn e2 ⟨o, es, ep, ho, hc, hdat, e1⟩)
  refine ⟨.ref d, _, I2, rx, q _ ⟨⟨_, upd_same, fun y hy => ?_, by rw [List.map_map]; rfl⟩⟩⟩
  obtain ⟨z, _, rfl⟩ := List.mem_map.mp hy
  rfl
end
end Own
set_option Elab.async false
set_option linter.all false
set_option maxRecDepth 100000
set_option maxHeartbeats 2000000
/-! own classes: x + y, x & y by an own def; a static method; an exception of an own class without __init__ of its own, its base an own class, too -/
namespace Own
open PySem PySem.Spec PyProof.Rows L2
section
variable {X : Cx} {CX : CXT} {C f : Addr} {fd : FuncData} {ps : List Str} {n : Nat} {sp : Sp} {E : XK} {op : Operator}
/-- x op y by the def of x's class; what stands on the right is told by oth; the answer is an object -/
def rOp (C : Addr) (sp : Sp) (E : XK) (oth : V → Hp → Prop) : R2 := fun x y H Q => ∃ a dx fs, x = .ref a ∧ H a = some (.ins C dx fs) ∧ oth y H ∧ sp [x, y] H (fun v H' => ∃ p, v = .ref p ∧ Q (.ref p) H') E
/-- on the right an instance of the same class -/
def likeIt (C : Addr) : V → Hp → Prop := fun y H => ∃ b dy gs, y = .ref b ∧ H b = some (.ins C dy gs)
def intIt : V → Hp → Prop := fun y _ => ∃ i : Int, y = .int i
theorem op_like (F : FnOk X.prog X.w X.K X.mg X.base CX n f fd ps sp) (hs : PySem.W.findIn X.K (.ref C) (PySem.dunder op.info.2) = some (some (.ref f))) (hf : PySem.W.isFn X.K (.ref f) = true) (hc : PySem.W.selfFirst X.K C = true) (hb : L2.Binds X.K fd ps []) (hx : Passes CX X E) (hr : Room n X.A) :
    OpR X (binaryOp op) (rOp C sp E (likeIt C)) := by
  rintro pins s σ H x y u v Q I rx ry ⟨a, dx, fs, rfl, ha, ⟨b, dy, gs, rfl, hb2⟩, hsp⟩
  cases (show u = Value.ref a from rx)
  cases (show v = Value.ref b from ry)
  obtain ⟨mA, J, _⟩ := ins_get I.hok ha
  obtain ⟨mB, L, _⟩ := ins_get I.hok hb2
  obtain ⟨odA, J, _⟩ := J.look
  obtain ⟨odB, L, _⟩ := L.look
  obtain ⟨m, hF⟩ := I.fr
  show wpAny (model X.prog X.w) X.A (binaryOp op (.ref a) (.ref b)) (EP X pins σ Q) X.xe s
  refine PySem.W.binop_K hF I.ok.mod.kin J L.type hc hs hf ?_
  refine wpAny_mono (own_call F hb hx hr rfl I (x := .ref a) (y := .ref b) rfl rfl hsp) (fun r s' h => ?_) fun _ _ z => z
  obtain ⟨z, H', rz, I', p, rfl, q⟩ := h
  cases (show r = Value.ref p from rz)
  exact ⟨.ref p, H', I', rfl, q⟩
theorem op_intR {fo ro rc : Option Value} (F : FnOk X.prog X.w X.K X.mg X.base CX n f fd ps sp) (hs : PySem.W.findIn X.K (.ref C) (PySem.dunder op.info.2) = some (some (.ref f))) (hf : PySem.W.isFn X.K (.ref f) = true) (hc : PySem.W.selfFirst X.K C = true)
    (hrc : PySem.W.findIn X.K (.ref C) (dunderR op.info.2) = some none) (h1 : PySem.W.findIn X.K (.type "int") (PySem.dunder op.info.2) = some fo) (h2 : PySem.W.findIn X.K (.type "int") (dunderR op.info.2) = some ro) (hsub : PySem.W.subIn X.K (.type "int") (.ref C) = some false)
    (hb : L2.Binds X.K fd ps []) (hx : Passes CX X E) (hr : Room n X.A) : OpR X (binaryOp op) (rOp C sp E intIt) := by
  rintro pins s σ H x y u v Q I rx ry ⟨a, dx, fs, rfl, ha, ⟨i, rfl⟩, hsp⟩
  cases (show u = Value.ref a from rx)
  obtain ⟨t, rfl⟩ : ∃ t, v = Value.int i t := ry
  obtain ⟨mA, J, _⟩ := ins_get I.hok ha
  obtain ⟨odA, J, _⟩ := J.look
  obtain ⟨m, hF⟩ := I.fr
  show wpAny (model X.prog X.w) X.A (binaryOp op (.ref a) (.int i t)) (EP X pins σ Q) X.xe s
  refine PySem.W.ksp_binT hF I.ok.mod.kin J (T := "int") rfl hc hs hf hrc (.inl rfl) h1 h2 hsub ?_
  refine wpAny_mono (own_call F hb hx hr rfl I (x := .ref a) (y := .int i) rfl ⟨t, rfl⟩ hsp) (fun r s' h => ?_) fun _ _ z => z
  obtain ⟨z, H', rz, I', p, rfl, q⟩ := h
  cases (show r = Value.ref p from rz)
  exact ⟨.ref p, H', I', rfl, q⟩
end
/-! ### dicts -/
theorem hits_flatA {A : Around} {s : Shared} {ls : List (Key × V)} {vb : List (Key × Value)} (rb : KV ls vb) (fl : ∀ k u, valV ls k = some u → flatV u = true) {ks : List (Key × V)} {va : List (Key × Value)}
    (ra : KV ks va) : (∀ p ∈ ks, flatV p.2 = true) → PySem.W.KeqHits A s vb va (eqKv ks ls) := by
  unfold KV at ra
  induction ra with
  | nil => intro _; exact .nil
  | @cons p q ps qs h t k =>
    intro hp
    obtain ⟨h1, h2⟩ := h
    have rr : RelO (valV ls p.1) (valueAt vb p.1) := rb.val p.1
    obtain ⟨key, v⟩ := q
    have h1' : p.1 = key := h1
    have rest := k fun p' hm => hp p' (List.mem_cons_of_mem _ hm)
    cases e : valV ls p.1 with
    | none =>
      rw [e] at rr
      have hn : valueAt vb key = none := by
        rw [← h1']
        cases hv : valueAt vb p.1 with
        | none => rfl
        | some z => rw [hv] at rr; exact rr.elim
      have hb : eqKv (p :: ps) ls = false := by unfold eqKv; rw [List.all_cons, e]; rfl
      rw [hb]
      exact .miss hn
    | some u =>
      rw [e] at rr
      obtain ⟨y, hy, ry⟩ := rr.some_of
      rw [h1'] at hy
      have hb : eqKv (p :: ps) ls = (eqV p.2 u && eqKv ps ls) := by unfold eqKv; rw [List.all_cons, e]
      rw [hb]
      exact .hit hy (eqAt_V h2 ry (hp p List.mem_cons_self) (fl _ _ e)) rest
/-- a != b of dicts of flat things, any answer -/
def rNeDF : R2 := fun x y H Q => ∃ a b ks ls, x = .ref a ∧ y = .ref b ∧ H a = some (.dK ks) ∧ H b = some (.dK ls) ∧ (∀ p ∈ ks, flatV p.2 = true) ∧ (∀ k u, valV ls k = some u → flatV u = true) ∧ Q (.bl !(ks.length == ls.length && eqKv ks ls)) H
theorem op_neDF {X : Cx} (hu : X.A.units + 64 < cLine) : OpR X (compareOp .NotEq) rNeDF := by
  rintro pins s σ H x y v u Q I rx ry ⟨a, b, ks, ls, rfl, rfl, ha, hb, f1, f2, q⟩
  cases (show v = Value.ref a from rx)
  cases (show u = Value.ref b from ry)
  obtain ⟨_, ya, va, ra, da⟩ := (show ObjOk X.prog X.w H s.heap a (.dK ks) from I.hok a _ ha)
  obtain ⟨_, yb, vb, rb, db⟩ := (show ObjOk X.prog X.w H s.heap b (.dK ls) from I.hok b _ hb)
  have la : ks.length = va.length := by unfold KV at ra; exact ra.length
  have lb : ls.length = vb.length := by unfold KV at rb; exact rb.length
  refine PySem.W.keq_ne (knd := mixKind X.prog X.w) (r := eqKv ks ls) ya yb da db (by omega) (fun _ => hits_flatA rb f2 ra f1) ?_
  rw [← la, ← lb]
  exact ⟨.bl _, H, I, rfl, q⟩
/-! ### an exception without __init__ of its own -/
theorem pmk_bare {X : Cx} {C : Addr} {x : Str} {p pos : Pos} (q : PySem.W.excInitIn X.K C [.type "ValueError", .type "Exception", .type "BaseException", .type "object"] "ValueError.__new__" = true) (hi : PySem.W.findIn X.K (.ref C) "__init__" = some (some (.builtin "ValueError.__init__")))
    (gC : X.mg x = some (.ref C)) (kC : PySem.W.keepIn X.K (.ref C) = true) (r : Raises X (.ref C)) (hg : Gl X x) (hdb : (x == ("__debug__" : Str)) = false := by decide) : PMk X (.Call (.Name x p) [] [] pos) (fun _ H Q => Q (.ref C) none H) := by
  intro pins s σ H Q I h
  refine wpAny_Call_Name_kw (ld_glob I hg gC ?_ hdb)
  refine PySem.W.callWith_K0 (first := []) I.kIn kC ?_
  show wpAny _ _ (call (.ref C) []) _ _ _
  have KI := I.kIn
  obtain ⟨nm, N, qn, bs, bm, hd, sn, sub, ab, col, dd, k0, k1, k2, k3, k5, hC, hT⟩ := PySem.W.excInit_of KI q
  have bare := I.bare
  have hok := I.hok
  obtain ⟨hp, g, d, t, os⟩ := s
  refine PySem.W.call_B F.excBase_ValueError hT hC (PySem.W.looks_findIn KI hi) (Nat.zero_le _) (fun h' k e1 e2 => ?_)
  have nw : hp.get? (hp.objs.size + 1) = none := by
    cases z : hp.get? (hp.objs.size + 1) with
    | none => rfl
    | some o => exact absurd (Heap.lt_size z) (Nat.not_lt.mpr (Nat.le_succ _))
  exact ⟨_, _, _, ⟨hp, g, d, t, os⟩, H, .ref C, none, rfl, I, k, nw, e1, ⟨rfl, rfl⟩, rfl, rfl, hok.gone nw, rfl, bare, r, h⟩
/-! ### a static method by its class's name -/
/-- what the written part says of C.m, a static method around the def at f -/
structure StaM (K : PySem.W.Frag) (C : Addr) (m : Str) (f : Addr) : Prop where
  ty : PySem.W.typeIn K (.ref C) = some (.type "type")
  rd : PySem.W.readsIn K C (.type "type") = true
  sp : PySem.W.specialIn K (.ref C) "__getattribute__" = some (some (.builtin "type.__getattribute__"))
  at_ : ∃ p rest, PySem.W.findCls K (.ref C) (.type "type") m = some (.get (.builtin "staticmethod.__get__") (.ref p) .none (.ref C)) ∧ PySem.W.recIn K p "staticmethod" = some (.ref f :: rest)
  kp : PySem.W.keepIn K (.ref f) = true
def tSt (C : Addr) (sp : Sp) (E : XK) (ta : TE) (t : TA) : TE := fun σ H Q => ta σ H fun x H1 => x = .ref C ∧ t σ H1 fun vs H2 => sp vs H2 Q E
theorem pe_stm {X : Cx} {CX : CXT} {C f : Addr} {m : Str} {fd : FuncData} {ps : List Str} {k : Nat} {sp : Sp} {E : XK} {o e : Expr} {es : List Expr} {pos apos : Pos} {ta : TE} {t : TA} {pl : Sem Bool} (he : PE X o ta) (M : StaM X.K C m f) (F : FnOk X.prog X.w X.K X.mg X.base CX k f fd ps sp) (hr : Room k X.A)
    (hb : L2.Binds X.K fd ps []) (hx : Passes CX X E) (ha : PA X (e :: es) t) (hst : starEach (e :: es) X.env = (false, eval e X.env) :: starEach es X.env := by rfl) (hpl : (backTo pos (starEach es X.env)).any (·.1) = false := by rfl)
    (ht : eval (.Call (.Attribute o m apos) (e :: es) [] pos) X.env = (do
      let cv ← eval o X.env
      standAt apos.atName
      let (f, first) ← holding [cv] (getMethod cv m pl)
      callWith pos f first (backTo pos (starEach (e :: es) X.env)) (backToKw pos (keywordEach [] X.env))) := by rfl) : PE X (.Call (.Attribute o m apos) (e :: es) [] pos) (tSt C sp E ta t) := by
  refine ⟨fun pins s σ H Q I h => ?_⟩
  refine PySem.W.methodCall_KW (pl := pl) (thn (he.run pins s σ H _ I h) fun u s1 ⟨x, H1, I1, rx, ex, q⟩ => ?_) ht
  subst ex
  obtain rfl : u = Value.ref C := rx
  obtain ⟨p, rest, hc, hrec⟩ := M.at_
  obtain ⟨m1, hF⟩ := I1.fr
  refine PySem.W.method_of_cls hF I1.ok.mod.kin M.sp (PySem.W.cls_sm hF I1.ok.mod.kin M.ty M.rd hc hrec rfl ?_)
  have I2 : L2.Inv X pins σ H1 { s1 with toks := s1.toks + 1 } := I1.kept (t' := s1.toks + 1) fun _ _ z => z
  refine PySem.W.callWith_K (first := []) (h₀ := X.base) I1.ok.mod.kin M.kp (thn (ha.run pos pins _ σ H1 _ I2 q) fun us s2 ⟨vs, H2, I3, r, q2⟩ => ⟨I3.kIn, ?_⟩) hst hpl
  exact run_fn (ds := []) (dvs := []) F hr hb .nil hx I3 r (by rw [List.append_nil]; exact q2)
end Own
set_option Elab.async false
set_option linter.all false
set_option maxRecDepth 100000
set_option maxHeartbeats 2000000
/-! try: several clauses, some with a name -/
namespace Own
open PySem PySem.Spec PyProof.Rows L2
theorem int_add {K : PySem.W.Frag} : PySem.W.findIn K (.type "int") (PySem.dunder (Operator.info .Add).2) = some (some (.builtin "int.__add__")) := by
  show PySem.fastLookup "int" _ = _
  kernel_rfl
theorem int_radd {K : PySem.W.Frag} : PySem.W.findIn K (.type "int") (dunderR (Operator.info .Add).2) = some (some (.builtin "int.__radd__")) := by
  show PySem.fastLookup "int" _ = _
  kernel_rfl
/-- an except clause: the class, the slot of its name if it has one, its suite -/
structure Clause where
  ex : Value
  slot : Option Nat
  act : Addr → Value → Option Addr → TS
/-- the ends of a suite behind which a name goes -/
def dropAt (i : Nat) (D : Ends) : Ends where
  nx := fun σ H => D.nx (σ.set i none) H
  rt := D.rt
  bk := fun σ H => D.bk (σ.set i none) H
  ct := fun σ H => D.ct (σ.set i none) H
def suiteOf (k : Clause) (a : Addr) (c : Value) (d : Option Addr) (D : Ends) (σ : L2.St) (H : Hp) : Prop := match k.slot with
  | none => k.act a c d D σ H
  | some i => k.act a c d (dropAt i D) (σ.set i (some (.ref a))) H
/-- the first clause that matches is done; none: the wish without -/
def wCl (K : PySem.W.Frag) (Wo : WX) (D : Ends) : List Clause → WX
  | [] => Wo
  | k :: r => fun c d σ H => ∃ b, PySem.W.exmOne K c k.ex = some b ∧ (b = true → ∀ a, H a = none → suiteOf k a c d D σ H) ∧ (b = false → wCl K Wo D r c d σ H)
def SuiteOk (X : Cx) (st : List Stmt) (ts : Addr → Value → Option Addr → TS) : Prop :=
  ∀ (a : Addr) (oe : Obj) (cls : Value) (d : Option Addr) (pn : List (Addr × Obj)), Zc cls d oe → (∃ fs, oe.data = .fields fs) → PSs (X.suite a ((a, oe) :: pn)) st (ts a cls d)
inductive Clauses (X : Cx) : List ExceptHandler → List Clause → Prop
  | nil : Clauses X [] []
  | plain {x : Str} {c : Value} {ts : Addr → Value → Option Addr → TS} {b : Stmt} {su : List Stmt} {np ps : Pos} {r : List ExceptHandler} {l : List Clause} (hc : Names X x c) (hu : SuiteOk X (b :: su) ts) (hr : Clauses X r l) :
      Clauses X (.ExceptHandler (some (.Name x np)) none (b :: su) ps :: r) (⟨c, none, ts⟩ :: l)
  | named {x n : Str} {i : Nat} {c : Value} {ts : Addr → Value → Option Addr → TS} {b : Stmt} {su : List Stmt} {np ps : Pos} {r : List ExceptHandler} {l : List Clause} (hi : X.N[i]? = some n) (hk : X.env.kindOf n = some .local) (hc : Names X x c) (hu : SuiteOk X (b :: su) ts) (hr : Clauses X r l) :
      Clauses X (.ExceptHandler (some (.Name x np)) (some n) (b :: su) ps :: r) (⟨c, some i, ts⟩ :: l)
section
variable {X : Cx} {pins : List (Addr × Obj)} {σ : L2.St} {H : Hp} {D : Ends} {Wo : WX} {sI s3 : Shared} {a : Addr} {B : Heap} {cls : Value} {d : Option Addr}
/-- what stands when an error has come to the try's clauses -/
structure Come (X : Cx) (pins : List (Addr × Obj)) (σ : L2.St) (H : Hp) (Wo : WX) (sI s3 : Shared) (a : Addr) (B : Heap) (cls : Value) (d : Option Addr) : Prop where
  ok : X.Ok
  stk : X.stack = X.env :: X.outer
  loc : X.env.frame = some X.env.locals
  nd : X.N.Nodup
  tk : Takes X Wo
  was : L2.Inv X pins σ H sI
  low : ∀ b o, sI.heap.get? b = some o → b ∉ frs X.stack → B.get? b = some o
  up : sI.heap.UpToSlots s3.heap
  fly : HandSPX.FlyingZ B (X.env :: X.outer) a (Zc cls d) s3.heap
  free : H a = none
  os : s3.os = sI.os
  bare : AllBare s3.gens
theorem Come.inv (c : Come X pins σ H Wo sI s3 a B cls d) : L2.Inv X pins σ H s3 := c.was.landed c.low c.fly.1 c.up c.os c.bare
theorem Come.on (c : Come X pins σ H Wo sI s3 a B cls d) {h : Heap} (f : HandSPX.FlyingZ B (X.env :: X.outer) a (Zc cls d) h) (u : s3.heap.UpToSlots h) : Come X pins σ H Wo sI { s3 with heap := h } a B cls d :=
  { c with up := c.up.trans u, fly := f }
theorem Come.suite (c : Come X pins σ H Wo sI s3 a B cls d) : ∃ oe fs, s3.heap.get? a = some oe ∧ Zc cls d oe ∧ oe.data = .fields fs ∧ L2.Inv (X.suite a ((a, oe) :: (X.pn ++ pins))) [] σ H s3 := by
  obtain ⟨oe, fs, g1, g2, g3⟩ := c.fly.there
  have off : a ∉ frs (X.env :: X.outer) := fun m => by
    obtain ⟨_, u, g4, no⟩ := c.fly.2.2.1.mem m
    rw [g1] at g4
    exact no fs (by rw [← Option.some.inj g4]; exact g3)
  refine ⟨oe, fs, g1, g2, g3, c.inv.suite g1 g3 c.free (fun z => off ?_) fun m => off ?_⟩
  · exact List.mem_filterMap.mpr ⟨X.env, List.mem_cons_self, by rw [c.loc, z]⟩
  · obtain ⟨e, m1, m2⟩ := List.mem_filterMap.mp m
    exact List.mem_filterMap.mpr ⟨e, List.mem_cons_of_mem _ m1, m2⟩
/-- the clause's class is looked at -/
theorem Come.test (c : Come X pins σ H Wo sI s3 a B cls d) {x : Str} {np : Pos} {k : Value} (hn : Names X x k) {Q E : Value → Shared → Prop} (q : Q k s3) : wpAny (model X.prog X.w) (X.A.mark (some (.ref a))) (eval (.Name x np) X.env) Q E s3 := by
  obtain ⟨oe, fs, _, _, _, J⟩ := c.suite
  obtain ⟨h1, h2, h3 | ⟨h3, h4, h5⟩⟩ := hn
  · exact ld_glob (X := X.suite a ((a, oe) :: (X.pn ++ pins))) J h1 h3 q h2
  · exact ld_blt (X := X.suite a ((a, oe) :: (X.pn ++ pins))) J h1 h3 h4 q h5 h2
theorem Come.match_ (c : Come X pins σ H Wo sI s3 a B cls d) {k : Value} {b : Bool} (e : PySem.W.exmOne X.K cls k = some b) {Q : Bool → Shared → Prop} {E : Value → Shared → Prop} {A : Around} (q : Q b s3) : wpAny (model X.prog X.w) A (excMatches (.ref a) k) Q E s3 := by
  obtain ⟨oe, fs, g1, g2, _, J⟩ := c.suite
  exact (PySem.W.exm_one (M := model X.prog X.w) J.kIn (fun _ _ _ _ kk q => wpAny_typeOf_ref (kk _ _ g1) (by rw [g2.1]; exact q)) e).here q
theorem Come.go (c : Come X pins σ H Wo sI s3 a B cls d) {hds : List ExceptHandler} {l : List Clause} (hh : Clauses X hds l) : wCl X.K Wo D l cls d σ H → wpAny (model X.prog X.w) X.A (handleBy (.ref a) X.env hds) (SP X pins D) X.xe s3 := by
  induction hh with
  | nil =>
    intro w
    refine wpAny_handleBy_nil ?_
    have f := c.fly
    obtain ⟨_, _, _, oe, fs, T, oT, ts, g1, g2, g3, g4, _⟩ := id f
    unfold PySem.passOn
    refine wpAny_bind (wpAny_field g1 g3 g4 ?_)
    rw [if_neg (by simp : ¬ ((Value.ref T == Value.none) = true))]
    have out : wpAny (model X.prog X.w) X.A (setFlight (.ref a) X.env.frame) (fun _ s4 => wpAny (model X.prog X.w) X.A (throw (.ref a) : Sem Flow) (SP X pins D) X.xe s4) X.xe s3 := by
      rw [c.loc]
      refine HandSPX.setFlight_upZ f fun h4 held u4 => wpAny_throw (c.tk _ _ ⟨a, B, sI, pins, σ, H, cls, d, rfl, c.was, c.low, c.up.trans u4, .inr (.inr ?_), c.free, c.os, c.bare, w⟩)
      rw [c.stk]; exact held
    first
      | exact wpAny_bind (wpAny_pure (wpAny_bind out))
      | exact wpAny_bind out
  | @plain x k ts b su np ps r l hc hu hr ih =>
    intro ⟨m, e, yes, no⟩
    refine wpAny_handleBy_cons (codeAny_handlers_test (c.test hc (c.match_ e ?_))) (fun z => by cases z)
    cases m with
    | false => exact ih (no rfl)
    | true =>
      refine codeAny_handlers_suite (HandSPX.lands_againZ c.fly fun h4 f4 u4 => ?_)
      obtain ⟨oe, fs, g1, g2, g3, J⟩ := (c.on f4 u4).suite
      refine wpAny_mono ((hu a oe cls d (X.pn ++ pins) g2 ⟨fs, g3⟩).run [] _ σ H D J (yes rfl a c.free)) (fun fl s6 z => ?_) fun _ _ z => z.elim
      cases fl with
      | ret u =>
        obtain ⟨v, σ6, H6, J6, rv, q⟩ := z
        exact ⟨v, σ6, H6, J6.unsuite c.ok, rv, q⟩
      | next => exact z.imp fun σ6 z => z.imp fun H6 z => ⟨z.1.unsuite c.ok, z.2⟩
      | brk => exact z.imp fun σ6 z => z.imp fun H6 z => ⟨z.1.unsuite c.ok, z.2⟩
      | cont => exact z.imp fun σ6 z => z.imp fun H6 z => ⟨z.1.unsuite c.ok, z.2⟩
  | @named x n i k ts b su np ps r l hi hk hc hu hr ih =>
    intro ⟨m, e, yes, no⟩
    refine wpAny_handleBy_cons (codeAny_handlers_test (c.test hc (c.match_ e ?_))) (fun z => by cases z)
    cases m with
    | false => exact ih (no rfl)
    | true =>
      refine codeAny_handlers_suite_as (HandSPX.lands_againZ c.fly fun h4 f4 u4 => ?_)
      obtain ⟨oe, fs, g1, g2, g3, J⟩ := (c.on f4 u4).suite
      refine store_ok (X := X.suite a ((a, oe) :: (X.pn ++ pins))) (v := .ref a) J c.nd hi (.inl hk) rfl (fun s5 J5 => ?_) (.inr hk)
      refine wpAny_mono ((hu a oe cls d (X.pn ++ pins) g2 ⟨fs, g3⟩).run [] s5 _ H (dropAt i D) J5 (yes rfl a c.free)) (fun fl s6 z => ?_) fun _ _ z => z.elim
      have gone : ∀ {σ6 : L2.St} {H6 : Hp} {Q : Shared → Prop}, L2.Inv (X.suite a ((a, oe) :: (X.pn ++ pins))) [] σ6 H6 s6 → (∀ s7, L2.Inv X pins (σ6.set i none) H6 s7 → Q s7) →
          wpAny (model X.prog X.w) X.A (do bindName X.env n .none; unbindBehindTheSuite X.env n ps) (fun _ s7 => Q s7) X.xe s6 := fun J6 q => gone_ok (J6.unsuite c.ok) c.nd hi hk q
      cases fl with
      | ret u =>
        obtain ⟨v, σ6, H6, J6, rv, q⟩ := z
        exact gone J6 fun s7 J7 => ⟨v, _, H6, J7, rv, q⟩
      | next => obtain ⟨σ6, H6, J6, q⟩ := z; exact gone J6 fun s7 J7 => ⟨_, H6, J7, q⟩
      | brk => obtain ⟨σ6, H6, J6, q⟩ := z; exact gone J6 fun s7 J7 => ⟨_, H6, J7, q⟩
      | cont => obtain ⟨σ6, H6, J6, q⟩ := z; exact gone J6 fun s7 J7 => ⟨_, H6, J7, q⟩
end
/-- try: body except X as n: .. except Y: .. -/
theorem ps_clauses {X : Cx} {body : List Stmt} {h0 : ExceptHandler} {hds : List ExceptHandler} {l : List Clause} {pos : Pos} {tb : WX → TS} {Wo : WX} (hs : X.stack = X.env :: X.outer) (hf : X.env.frame = some X.env.locals) (nd : X.N.Nodup) (tk : Takes X Wo)
    (hb : ∀ (W : WX) (pn : List (Addr × Obj)) (xe : Value → Shared → Prop), Takes (X.tr pn xe) W → PassesOwn (model X.prog X.w) X.A X.env xe → PSs (X.tr pn xe) body (tb W))
    (hh : Clauses X (h0 :: hds) l) : PS X (.Try body (h0 :: hds) [] [] pos) (fun D σ H => tb (wCl X.K Wo D l) D σ H) := by
  refine ⟨fun pins s σ H D I h => ?_⟩
  have okX := I.ok
  refine wpAny_Try_except (wpAny_mono ((hb (wCl X.K Wo D l) (X.pn ++ pins) (fun e s1 => wpAny (model X.prog X.w) X.A (noteFrame e X.env) (fun _ s2 => wpAny (model X.prog X.w) X.A (setFlight e none) (fun _ s3 =>
    wpAny (model X.prog X.w) X.A (handleBy e X.env (h0 :: hds)) (SP X pins D) X.xe s3) X.xe s2) X.xe s1) (fun u s1 z => ?_) PassesOwn.looking).run [] s σ H D (I.toTry _) h) (fun fl s1 z => ?_) fun e s1 z => z)
  · obtain ⟨a, B, sI, ps, σ1, H1, cls, d, rfl, J, low, up, sky, free, os, bare, w⟩ := z
    have K1 := J.ofTry okX
    have sk : Sky B (X.env :: X.outer) a (Zc cls d) X.env.locals s1.heap := by rw [← hs]; exact sky
    show wpAny (model X.prog X.w) X.A (noteFrame (.ref a) X.env) _ _ _
    refine Sky.land Zc.steady (by rw [okX.frames, hs]) hf sk fun h3 f3 u3 => ?_
    exact Come.go (sI := sI) (s3 := { s1 with heap := h3 }) (B := B) (Wo := Wo) ⟨okX, hs, hf, nd, tk, K1, low, up.trans u3, f3, free, os, bare⟩ hh w
  · cases fl with
    | next =>
      obtain ⟨σ1, H1, J, q⟩ := z
      exact wpAny_execs_nil ⟨σ1, H1, J.ofTry okX, q⟩
    | ret u =>
      obtain ⟨v, σ1, H1, J, rv, q⟩ := z
      exact ⟨v, σ1, H1, J.ofTry okX, rv, q⟩
    | brk => obtain ⟨σ1, H1, J, q⟩ := z; exact ⟨σ1, H1, J.ofTry okX, q⟩
    | cont => obtain ⟨σ1, H1, J, q⟩ := z; exact ⟨σ1, H1, J.ofTry okX, q⟩
end Own
set_option Elab.async false
set_option linter.all false
set_option maxRecDepth 100000
set_option maxHeartbeats 2000000
namespace Own
open PySem PySem.Spec PyProof.Rows L2
/-! ### o[i] with an own __getitem__ -/
def tItm (C : Addr) (sp : Sp) (E : XK) (ta tb : TE) : TE := tOp (fun x y H Q => ∃ a dx fs, x = V.ref a ∧ H a = some (.ins C dx fs) ∧ sp [x, y] H Q E) ta tb
theorem pe_itm {X : Cx} {CX : CXT} {C f : Addr} {fd : FuncData} {ps : List Str} {n : Nat} {sp : Sp} {E : XK} {a b : Expr} {ta tb : TE} {pos : Pos} (ha : PE X a ta) (F : FnOk X.prog X.w X.K X.mg X.base CX n f fd ps sp)
    (hs : PySem.W.findIn X.K (.ref C) "__getitem__" = some (some (.ref f))) (hfi : PySem.W.fnIn X.K f = true) (hf : PySem.W.isFn X.K (.ref f) = true) (hb : L2.Binds X.K fd ps []) (hx : Passes CX X E) (hr : Room (n + 1) X.A) (hp : PE X b tb)
    (hsl : ∀ o i, subscripted b true o i = runValue (.builtin "lifetime.subscript" ⟨[o, i], []⟩)) : PE X (.Subscript a b pos) (tItm C sp E ta tb) := by
  refine ⟨fun pins s σ H Q I h => ?_⟩
  refine Subscript_ (binT ha hp I h fun v u s2 x y H2 I2 rx ry q => ?_)
  obtain ⟨p, dx, fs, ex, hp2, hsp⟩ := q
  subst ex
  cases (show v = Value.ref p from rx)
  obtain ⟨mA, J, _⟩ := ins_get I2.hok hp2
  obtain ⟨od, J, _⟩ := J.look
  obtain ⟨m, hF⟩ := I2.fr
  refine PySem.W.sub_K hF I2.ok.mod.kin J hs hfi hf ?_ (hsl _ _)
  refine wpAny_mono (own_call F hb hx hr.in1 rfl I2 (x := .ref p) rfl ry hsp) (fun w s' h => ?_) fun _ _ h => h
  obtain ⟨z, H', rz, I', q⟩ := h
  exact ⟨z, H', I', rz, q⟩
/-! ### a, b = a list or a tuple -/
theorem pg_lt {X : Cx} {pos : Pos} {es : List Expr} {k : Nat} {t : TGs} {n : Nat} (hc : X.calm = true) (h : PGs X es t)
    (hn : (assignEach es X.env).length = n := by rfl) (hst : (assignEach es X.env).findIdx? (·.1) = none := by rfl) : PG X (.Tuple es k pos) (fun v σ H Q => gLst X.K n t v σ H Q ∨ gTup X.K n t v σ H Q) := by
  refine ⟨fun pins s σ H v u Q I r hw => ?_⟩
  rcases hw with hw | hw
  · exact (pg_lst hc h hn hst).run pins s σ H v u Q I r hw
  · exact (pg_tup hc h hn hst).run pins s σ H v u Q I r hw
end Own
namespace Own
open PySem PySem.Spec PyProof.Rows L2
def rIxLT (K : PySem.W.Frag) : R2 := fun x y H Q => rIxL K x y H Q ∨ rIxT K x y H Q
theorem ixLtOf {X : Cx} {K : PySem.W.Frag} (h : X.K = K) : IxR X (rIxLT K) := h ▸ ix_list.or ix_tup
end Own
set_option Elab.async false
set_option linter.all false
set_option maxRecDepth 100000
set_option maxHeartbeats 2000000
/-! == and != of own instances inside of a comprehension -/
namespace Own
open PySem PySem.Spec PyProof.Rows L2
variable {X : Cx} {CX : CXT} {K : PySem.W.Frag} {C f : Addr} {fd : FuncData} {ps : List Str} {n : Nat} {sp : Sp} {E : XK}
theorem eqOwnOf (hK : X.K = K) (F : FnOk X.prog X.w X.K X.mg X.base CX n f fd ps sp) (hs : PySem.W.findIn X.K (.ref C) "__eq__" = some (some (.ref f))) (hf : PySem.W.isFn X.K (.ref f) = true) (hb : L2.Binds X.K fd ps []) (hx : Passes CX X E) (hr : Room n X.A) :
    OpR X (compareOp .Eq) (rOwn K C sp E false) := by
  subst hK
  exact op_eqOwn F hs hf hb hx hr
theorem neOwnOf (hK : X.K = K) (F : FnOk X.prog X.w X.K X.mg X.base CX n f fd ps sp) (hne : PySem.W.findIn X.K (.ref C) "__ne__" = some (some (.builtin "object.__ne__"))) (hm : PySem.W.mroIn X.K C (.type "object") = some true)
    (hs : PySem.W.findIn X.K (.ref C) "__eq__" = some (some (.ref f))) (hf : PySem.W.isFn X.K (.ref f) = true) (hb : L2.Binds X.K fd ps []) (hx : Passes CX X E) (hr : Room (n + 1) X.A) :
    OpR X (compareOp .NotEq) (rOwn K C sp E true) := by
  subst hK
  exact op_neOwn F hne hm hs hf hb hx hr
end Own
set_option Elab.async false
set_option linter.all false
set_option maxRecDepth 100000
set_option maxHeartbeats 3200000
/-! set(xs) of texts, no two alike; its len -/
namespace Own
open PySem PySem.Spec PyProof.Rows L2
section
variable {prog : Program} {w : World} {A : Around} {E : Value → Shared → Prop} {s : Shared}
theorem memS {xs : List Str} {i : Nat} {x : Str} (e : xs[i]? = some x) (k : Str) : (decide (k ∈ xs.take i) || decide (k = x)) = decide (k ∈ xs.take (i + 1)) := by
  rw [List.take_succ, e, Bool.eq_iff_iff]
  simp [List.mem_append]
theorem fill_texts {I S : Addr} {fp wr : List Addr} {G : Array GenState → Array GenState → Prop} {n : Nat} {P : Nat → Value → Prop} {St : Nat → Shared → Prop} {R : Result → Shared → Prop} (W : WalksS prog w A.in1 I fp wr G n P St) (off : S ∉ fp)
    {xs : List Str} (len : xs.length = n) (nd : xs.Nodup) (few : n ≤ 64) (val : ∀ i v, P i v → ∃ x t, xs[i]? = some x ∧ v = .str x t) (out : ∀ s', Moved (S :: wr) G s s' → s'.heap.SetOf (strKind prog w) S (fun k => decide (k ∈ xs)) n → R (.ok (.ret .none)) s') :
    ∀ (m i : Nat) (z : Shared), i + m = n → St i z → z.heap.SetOf (strKind prog w) S (fun k => decide (k ∈ xs.take i)) i → (∀ z', Moved (S :: wr) G z z' → Moved (S :: wr) G s z') → codeAny (model prog w) A (.builtin "set.update.loop" ⟨[.ref S, .ref I], []⟩) R z
  | 0, i, z, hi, st, hs, back => by
    obtain rfl : i = n := hi
    refine codeAny_builtin F.entry_set_update_loop ?_
    rw [Around.under_plainId F.plain_set_update_loop _]
    refine wpAny_bind (m := pyNext (.ref I)) (W.done z _ _ st fun z' mv => wpAny_pure (out z' (back _ (mv.mono fun b hb => .tail _ hb)) ?_))
    obtain ⟨o, es, ep, t, ho, rest⟩ := hs
    rw [List.take_of_length_le (Nat.le_of_eq len)] at rest
    exact ⟨o, es, ep, t, mv.heap S _ (fun y => off (W.sub _ y)) ho, rest⟩
  | m + 1, i, z, hi, st, hs, back => by
    have lt : i < n := by omega
    refine codeAny_builtin F.entry_set_update_loop ?_
    rw [Around.under_plainId F.plain_set_update_loop _]
    refine wpAny_bind (m := pyNext (.ref I)) (W.item i z _ _ lt st fun v z' hp st' mv => ?_)
    obtain ⟨x, t, ex, rfl⟩ := val i v hp
    have old : z'.heap.SetOf (strKind prog w) S (fun k => decide (k ∈ xs.take i)) i := by
      obtain ⟨o, es, ep, tb, ho, rest⟩ := hs
      exact ⟨o, es, ep, tb, mv.heap S _ (fun y => off (W.sub _ y)) ho, rest⟩
    refine wpAny_bind (wpAny_holding (m := setAdd S (.str x t)) (wpAny_holding (wpAny_bind ((strKind prog w).pyHash (k := x) (strKind_is _ _ _ _) ?_))))
    refine wpAny_setAddHashed_of (knd := strKind prog w) (s := { z' with toks := z'.toks + 1 }) (strKind_is _ _ _ _) rfl old (by unfold scanBound; omega) fun h' only more => ?_
    have il : i < xs.length := by omega
    have fresh : x ∉ xs.take i := fun y => by
      obtain ⟨j, hj, e⟩ := List.getElem_of_mem y
      rw [List.length_take] at hj
      rw [List.getElem_take] at e
      rw [List.getElem?_eq_getElem il] at ex
      have := (List.getElem_inj nd).mp (e.trans (Option.some.inj ex).symm)
      omega
    have now : h'.SetOf (strKind prog w) S (fun k => decide (k ∈ xs.take (i + 1))) (i + 1) := SetOf_congr more (fun k => memS ex k) (by rw [decide_eq_false fresh]; rfl)
    refine wpAny_pure ⟨plainId_quiet F.plain_set_update_loop _, fill_texts W off len nd few val out m (i + 1) _ (by omega) (W.frame _ z' _ _ st' (Nat.le_succ _) fun b hb o e => ?_) now fun z2 mv2 => back _ (Moved.trans W.gtrans ((mv.mono fun b hb => .tail _ hb).then_heap (Nat.le_succ _) fun b o hb e => ?_) mv2)⟩
    · exact (only.2 b fun y => off (y ▸ hb)).trans e
    · exact (only.2 b fun y => hb (y ▸ .head _)).trans e
abbrev newSet (led : Bool) : Obj := { cls := .type "set", dict := none, data := .set #[] 0 (.fresh 0 0 led) }
/-- set(a): what is left is its __init__ -/
theorem set_called {a : Value} {Q : Value → Shared → Prop}
    (go : ∀ led : Bool, wpAny (model prog w) A.in1.in1 (Builtin.«set.__init__» ⟨[.ref s.heap.objs.size, a], []⟩) (fun fin z => match fin with | .done f => wants (fun r z => r = .none ∧ Q (.ref s.heap.objs.size) z) E (.ok f) z | .again c => c.quiet = true ∧ codeAny (model prog w) A.in1 c (wants (fun r z => r = .none ∧ Q (.ref s.heap.objs.size) z) E) z)
      (fun e z => wants (fun r z => r = .none ∧ Q (.ref s.heap.objs.size) z) E (.error e) z) { s with heap := s.heap.push (newSet led) }) : wpAny (model prog w) A (call (.type "set") [a]) Q E s := by
  obtain ⟨_, _, q1⟩ := F.called_set.mro
  have q2 := F.called_set.made
  have q3 := F.called_set.sub
  refine wpAny_call (codeAny_of_tree (show wpAny _ _ (callAny (.type "set") _) _ _ _ from wpAny_pure ⟨Code.quiet_builtin _ (by decide +kernel), codeAny_builtin F.entry_type_call ?_⟩))
  rw [Around.under_plain (weight_type_call_type "set" [a] []) rfl]
  have q4 := F.called_set.notType
  have q5 := F.called_set.canCreate
  have q6 := F.typeCall_set_1 a
  repeat (any_goals (first | assumption | wp_step))
  refine codeAny_mono (code_set_new_1 a (E := E) (Q₁ := fun ob z => ∃ led : Bool, ob = .ref s.heap.objs.size ∧ z = { s with heap := s.heap.push (newSet led) }) fun led => ⟨led, rfl, rfl⟩) fun r z hz => ?_
  match r, hz with
  | .error e, hz => exact hz
  | .ok (.ret ob), ⟨led, e1, e2⟩ =>
    subst e1
    subst e2
    have ty : Shared.TypeIs { s with heap := s.heap.push (newSet led) } (.ref s.heap.objs.size) "set" := ⟨_, Heap.get?_push_size _ rfl, rfl⟩
    have q7 := F.called_set.init.lookup
    have q8 := F.called_set.init.bind (.ref s.heap.objs.size)
    repeat (any_goals (first | assumption | wp_step))
    refine codeAny_mono (codeAny_call_builtin F.called_set.init.plain F.entry_set_init (check_set_init_1 ty (go led))) fun r2 z2 hz2 => ?_
    match r2, hz2 with
    | .error e, hz2 => exact hz2
    | .ok (.ret v), ⟨e1, hq⟩ =>
      subst e1
      repeat (any_goals (first | assumption | wp_step))
    | .ok .next, hz2 => exact hz2.elim
    | .ok .brk, hz2 => exact hz2.elim
    | .ok .cont, hz2 => exact hz2.elim
  | .ok .next, hz => exact hz.elim
  | .ok .brk, hz => exact hz.elim
  | .ok .cont, hz => exact hz.elim
theorem made_texts {l : Addr} {items : Array Value} {xs : List Str} {Q : Value → Shared → Prop} (hh : A.handled = none) (hl : s.heap.IsList l items ∨ s.heap.IsTuple l items) (hi : StrsAre items.toList xs) (nd : xs.Nodup) (few : xs.length ≤ 64)
    (h : ∀ (h' : Heap) (tk : Nat), h'.SetOf (strKind prog w) s.heap.objs.size (fun k => decide (k ∈ xs)) xs.length → (∀ b o, s.heap.get? b = some o → h'.get? b = some o) → Q (.ref s.heap.objs.size) { s with heap := h', toks := tk }) :
    wpAny (model prog w) A (call (.type "set") [.ref l]) Q E s := by
  have sz : xs.length = items.size := by rw [← StrsAre.len_eq hi, Array.length_toList]
  have val : ∀ (i : Nat) (v : Value), items[i]? = some v → ∃ x t, xs[i]? = some x ∧ v = .str x t := fun i v hv => by
    have lt : i < xs.length := by
      have := (Array.getElem?_eq_some_iff.mp hv).1
      omega
    obtain ⟨t, e⟩ := SS.strs_at hi i v (by rw [Array.getElem?_toList]; exact hv)
    refine ⟨xs[i], t, List.getElem?_eq_getElem lt, ?_⟩
    rw [e, List.getD_eq_getElem?_getD, List.getElem?_eq_getElem lt]; rfl
  refine set_called fun led => ?_
  have n3 : A.in1.in1.in1.handled = none := by simp [hh]
  rcases hl with hl | hl
  · have q1 := F.sub_list_set
    have q2 := F.sub_list_frozenset
    have q3 : (Value.type "list" == Value.type "dict") = false := by decide
    obtain ⟨ob, ho, hc, nl, hd⟩ := hl
    obtain ⟨cl, od, da, sl⟩ := ob
    dsimp only at hc hd
    subst hc
    subst hd
    have lo := Heap.lt_size ho
    have ho2 : (s.heap.push (newSet led)).get? l = some { cls := .type "list", dict := od, data := .seq items nl, slots := sl } := Heap.get?_push_of_some _ ho
    have at_ : (s.heap.push (newSet led)).IsList l items := ⟨_, ho2, rfl, nl, rfl⟩
    unfold Builtin.«set.__init__» noKeywords Builtin.Frozenset.updateFrom
    generalize hPI : pyIter = PI
    wp_walk
    subst hPI
    refine wpAny_pyIter_list at_ (wpAny_bind (wpAny_runValue ?_))
    have off : l ≠ (s.heap.push (newSet led)).objs.size := by rw [Heap.size_push]; exact Nat.ne_of_lt (Nat.lt_succ_of_lt lo)
    have off2 : s.heap.objs.size ∉ [(s.heap.push (newSet led)).objs.size, l] := by
      rw [Heap.size_push]
      exact fun m => (List.mem_cons.mp m).elim (Nat.ne_of_lt (Nat.lt_succ_self _)) fun m => Nat.ne_of_gt lo (List.mem_singleton.mp m)
    refine fill_texts ((Walks.list n3 _ l off items).toS) off2 sz nd (by omega) val (fun z' mv hz' => ?_) _ 0 _ (Nat.zero_add _) ⟨⟨_, Heap.get?_push_size _ rfl, rfl, rfl⟩, at_.push _⟩ ?_ fun _ mv => mv
    · obtain ⟨h', g', d', tk', os'⟩ := z'
      obtain rfl : g' = s.gens := mv.gens
      obtain rfl : d' = s.drawn := mv.drawn
      obtain rfl : os' = s.os := mv.os
      show wpAny _ _ _ _ _ _
      refine wpAny_pure ?_
      show wpAny _ _ (ret Value.none) _ _ _
      refine wpAny_pure ⟨rfl, h h' tk' (by rw [sz]; exact hz') fun b o e => ?_⟩
      have lb := Heap.lt_size e
      refine mv.heap b o (fun m => ?_) (Heap.get?_push_of_some _ (Heap.get?_push_of_some _ e))
      rcases List.mem_cons.mp m with m | m
      · exact Nat.ne_of_lt lb m
      · rw [Heap.size_push] at m
        exact Nat.ne_of_lt (Nat.lt_succ_of_lt lb) (List.mem_singleton.mp m)
    · have got : ((s.heap.push (newSet led)).push { cls := .type "list_iterator", data := .fields #[.ref l, .int 0 0] }).get? s.heap.objs.size = some (newSet led) := Heap.get?_push_of_some _ (Heap.get?_push_size _ rfl)
      exact SetOf_congr ((setObjOf_fresh (knd := strKind prog w) led).setOf got (by unfold scanBound; omega)) (fun k => by simp) rfl
  · have q1 := F.sub_tuple_set
    have q2 := F.sub_tuple_frozenset
    have q3 : (Value.type "tuple" == Value.type "dict") = false := by decide
    obtain ⟨ob, ho, hc, nl, hd⟩ := hl
    obtain ⟨cl, od, da, sl⟩ := ob
    dsimp only at hc hd
    subst hc
    subst hd
    have lo := Heap.lt_size ho
    have ho2 : (s.heap.push (newSet led)).get? l = some { cls := .type "tuple", dict := od, data := .seq items nl, slots := sl } := Heap.get?_push_of_some _ ho
    have at_ : (s.heap.push (newSet led)).IsTuple l items := ⟨_, ho2, rfl, nl, rfl⟩
    unfold Builtin.«set.__init__» noKeywords Builtin.Frozenset.updateFrom
    generalize hPI : pyIter = PI
    wp_walk
    subst hPI
    refine wpAny_pyIter_tuple at_ (wpAny_bind (wpAny_runValue ?_))
    have off : l ≠ (s.heap.push (newSet led)).objs.size := by rw [Heap.size_push]; exact Nat.ne_of_lt (Nat.lt_succ_of_lt lo)
    have off2 : s.heap.objs.size ∉ [(s.heap.push (newSet led)).objs.size, l] := by
      rw [Heap.size_push]
      exact fun m => (List.mem_cons.mp m).elim (Nat.ne_of_lt (Nat.lt_succ_self _)) fun m => Nat.ne_of_gt lo (List.mem_singleton.mp m)
    refine fill_texts ((Walks.tuple n3 _ l off items).toS) off2 sz nd (by omega) val (fun z' mv hz' => ?_) _ 0 _ (Nat.zero_add _) ⟨⟨_, Heap.get?_push_size _ rfl, rfl, rfl⟩, at_.push _⟩ ?_ fun _ mv => mv
    · obtain ⟨h', g', d', tk', os'⟩ := z'
      obtain rfl : g' = s.gens := mv.gens
      obtain rfl : d' = s.drawn := mv.drawn
      obtain rfl : os' = s.os := mv.os
      show wpAny _ _ _ _ _ _
      refine wpAny_pure ?_
      show wpAny _ _ (ret Value.none) _ _ _
      refine wpAny_pure ⟨rfl, h h' tk' (by rw [sz]; exact hz') fun b o e => ?_⟩
      have lb := Heap.lt_size e
      refine mv.heap b o (fun m => ?_) (Heap.get?_push_of_some _ (Heap.get?_push_of_some _ e))
      rcases List.mem_cons.mp m with m | m
      · exact Nat.ne_of_lt lb m
      · rw [Heap.size_push] at m
        exact Nat.ne_of_lt (Nat.lt_succ_of_lt lb) (List.mem_singleton.mp m)
    · have got : ((s.heap.push (newSet led)).push { cls := .type "tuple_iterator", data := .fields #[.ref l, .int 0 0] }).get? s.heap.objs.size = some (newSet led) := Heap.get?_push_of_some _ (Heap.get?_push_size _ rfl)
      exact SetOf_congr ((setObjOf_fresh (knd := strKind prog w) led).setOf got (by unfold scanBound; omega)) (fun k => by simp) rfl
end
/-- set(xs), only for its len: a list or a tuple of texts, no two alike -/
def tLenTexts (K : PySem.W.Frag) (ta : TE) : TE := fun σ H Q => ta σ H fun x H1 => ∃ l, ∃ xs : List Str, x = .ref l ∧ (SqL K H1 l (xs.map V.str) ∨ SqT K H1 l (xs.map V.str)) ∧ xs.Nodup ∧ xs.length ≤ 64 ∧ Q (.int xs.length) H1
theorem pe_lenTexts {X : Cx} {a : Expr} {ta : TE} {p p2 q pos : Pos} (hc : X.calm = true) (hg : Gl X "len") (hm : X.mg "len" = none) (hg2 : Gl X "set") (hm2 : X.mg "set" = none) (ha : PE X a ta)
    (na : starEach [a] X.env = (false, eval a X.env) :: starEach [] X.env := by rfl) : PE X (.Call (.Name "len" p) [.Call (.Name "set" p2) [a] [] q] [] pos) (tLenTexts X.K ta) := by
  refine ⟨fun pins s σ H Q I h => Call_ (ld_blt I hg hm boot_len ?_)⟩
  refine callWith_builtin1 (args_cons (Call_ (ld_blt I hg2 hm2 boot_set ?_)) rfl) rfl rfl
  refine callWith_type1 (args_cons (thn (ha.run pins s σ H _ I h) fun v z ⟨x, H1, J, r1, q1⟩ => args_nil ?_) na) na rfl
  obtain ⟨l, xs, ex, hq, nd, few, q1⟩ := q1
  subst ex
  cases (show v = Value.ref l from r1)
  have fin : ∀ (h' : Heap) (tk : Nat), h'.SetOf (strKind X.prog X.w) z.heap.objs.size (fun k => decide (k ∈ xs)) xs.length → (∀ b o, z.heap.get? b = some o → h'.get? b = some o) →
      wpAny (model X.prog X.w) X.A (spliced (backTo pos (starEach [] X.env))) (fun vs y => wpAny (model X.prog X.w) X.A (call (.builtin "len") (Value.ref z.heap.objs.size :: vs)) (EP X pins σ Q) X.xe y) X.xe { z with heap := h', toks := tk } := fun h' tk hS hk => by
    refine args_nil ?_
    obtain ⟨o, es, ep, t, ho, hex, hd, _, _, _, hf, hn⟩ := hS
    have J2 : L2.Inv X pins σ H1 { z with heap := h', toks := tk } := J.kept fun b o e => hk b o e
    exact call_len_set ho hex hd hf (by rw [hn] <;> omega) ⟨.int xs.length, H1, J2.tok _, ⟨_, by rw [hn]⟩, q1⟩
  rcases hq with hq | hq
  · obtain ⟨its, r, pl, _⟩ := J.list hq
    exact made_texts (J.ok.hd hc) (.inl pl.isList) (by simpa using L2.strsAre_of r) nd few fin
  · obtain ⟨its, r, pl, _⟩ := J.tuple hq
    exact made_texts (J.ok.hd hc) (.inr pl) (by simpa using L2.strsAre_of r) nd few fin
end Own
set_option Elab.async false
set_option linter.all false
set_option maxRecDepth 100000
set_option maxHeartbeats 2000000
/-! == of dicts whose values are data -/
namespace Own
open PySem PySem.Spec PyProof.Rows L2
def dfind (ls : List (Key × PyData)) (k : Key) : Option PyData := (ls.find? fun p => decide (p.1 = k)).map (·.2)
def eqKD (ks ls : List (Key × PyData)) : Bool := ks.all fun p => match dfind ls p.1 with | some u => PyData.eqv p.2 u | none => false
def DVal (K : PySem.W.Frag) (H : Hp) (kv : Key × V) (kd : Key × PyData) : Prop := kv.1 = kd.1 ∧ Dp K H kv.2 kd.2 ∧ SeqAt.shaped kd.2 = true ∧ kd.2.depth ≤ 8
theorem dval_find {K : PySem.W.Frag} {H : Hp} (k : Key) : ∀ {ls : List (Key × V)} {ds : List (Key × PyData)}, Paired (DVal K H) ls ds → (valV ls k = none ∧ dfind ds k = none) ∨ ∃ v d, valV ls k = some v ∧ dfind ds k = some d ∧ Dp K H v d ∧ SeqAt.shaped d = true
  | [], [], .nil => .inl ⟨rfl, rfl⟩
  | kv :: ls, kd :: ds, .cons h t => by
    by_cases e : kv.1 = k
    · exact .inr ⟨kv.2, kd.2, valV_pos e, by unfold dfind; rw [List.find?_cons_of_pos (by rw [← h.1]; exact decide_eq_true e)]; rfl, h.2.1, h.2.2.1⟩
    · have e2 : dfind (kd :: ds) k = dfind ds k := by unfold dfind; rw [List.find?_cons_of_neg (by rw [← h.1]; simpa using e)]
      rw [valV_neg e, e2]
      exact dval_find k t
theorem hits_data {X : Cx} {pins : List (Addr × Obj)} {σ : L2.St} {H : Hp} {s : Shared} (I : L2.Inv X pins σ H s) {A : Around} (hu : A.units + 8 < cLine) {ls : List (Key × V)} {lsd : List (Key × PyData)} {vb : List (Key × Value)} (rb : KV ls vb) (fl : Paired (DVal X.K H) ls lsd) {ks : List (Key × V)} {va : List (Key × Value)}
    (ra : KV ks va) : ∀ {ksd : List (Key × PyData)}, Paired (DVal X.K H) ks ksd → PySem.W.KeqHitsP X.prog X.w A s vb va (eqKD ksd lsd) := by
  unfold KV at ra
  induction ra with
  | nil => intro ksd h; cases h; exact .nil
  | @cons p q ps qs h t k =>
    intro ksd hk
    cases hk with
    | @cons _ kd _ ds hd ht =>
      obtain ⟨h1, h2⟩ := h
      obtain ⟨key, v⟩ := q
      have h1' : p.1 = key := h1
      have rest := k ht
      have rr : RelO (valV ls p.1) (valueAt vb p.1) := rb.val p.1
      have e0 : eqKD (kd :: ds) lsd = ((match dfind lsd kd.1 with | some u => PyData.eqv kd.2 u | none => false) && eqKD ds lsd) := rfl
      rw [e0, ← hd.1]
      rcases dval_find p.1 fl with ⟨e1, e2⟩ | ⟨u, d, e1, e2, hp, hs⟩
      · rw [e1] at rr
        rw [e2]
        refine .miss ?_
        rw [← h1']
        cases hv : valueAt vb p.1 with
        | none => rfl
        | some z => rw [hv] at rr; exact rr.elim
      · rw [e1] at rr
        rw [e2]
        obtain ⟨y, hy, ry⟩ := rr.some_of
        rw [h1'] at hy
        obtain ⟨as, r1⟩ := Dp.reads I kd.2 p.2 v hd.2.1 h2
        obtain ⟨bs, r2⟩ := Dp.reads I d u y hp ry
        refine .hit hy (SeqAt.EqAt.eqP (b := PyData.eqv kd.2 d) ?_) rest
        exact SeqAt.eqAt_reads kd.2 d A s v y as bs r1 r2 (SeqAt.canLay_of_shaped hd.2.2.1) (SeqAt.canLay_of_shaped hs) (by have := hd.2.2.2; have : min kd.2.depth d.depth ≤ kd.2.depth := Nat.min_le_left _ _; omega)
def rEqDD (K : PySem.W.Frag) : R2 := fun x y H Q => ∃ a b ks ls ksd lsd, x = .ref a ∧ y = .ref b ∧ H a = some (.dK ks) ∧ H b = some (.dK ls) ∧ Paired (DVal K H) ks ksd ∧ Paired (DVal K H) ls lsd ∧ Q (.bl (ks.length == ls.length && eqKD ksd lsd)) H
theorem op_eqDD {X : Cx} (hu : X.A.units + 64 < cLine) : OpR X (compareOp .Eq) (rEqDD X.K) := by
  intro pins s σ H x y v u Q I rx ry ⟨a, b, ks, ls, ksd, lsd, ex, ey, ha, hb, f1, f2, q⟩
  subst ex
  subst ey
  cases (show v = Value.ref a from rx)
  cases (show u = Value.ref b from ry)
  obtain ⟨_, ya, va, ra, da⟩ := (show ObjOk X.prog X.w H s.heap a (.dK ks) from I.hok a _ ha)
  obtain ⟨_, yb, vb, rb, db⟩ := (show ObjOk X.prog X.w H s.heap b (.dK ls) from I.hok b _ hb)
  have la : ks.length = va.length := by unfold KV at ra; exact ra.length
  have lb : ls.length = vb.length := by unfold KV at rb; exact rb.length
  refine PySem.W.rcP_dicts (knd := mixKind X.prog X.w) (r := eqKD ksd lsd) ya yb da db (by omega) (fun _ => hits_data I (A := X.A.in1) (by show X.A.units + 1 + 8 < cLine; omega) rb f2 ra f1) _ _ ?_
  rw [← la, ← lb]
  exact ⟨.bl _, H, I, rfl, q⟩
end Own
set_option Elab.async false
set_option linter.all false
set_option maxRecDepth 100000
set_option maxHeartbeats 2000000
/-! x in o with an own __contains__ -/
namespace Own
open PySem PySem.Spec PyProof.Rows L2
def rInOwn (C : Addr) (sp : Sp) (E : XK) : R2 := fun x y H Q => ∃ a dx fs, y = .ref a ∧ H a = some (.ins C dx fs) ∧ sp [y, x] H (fun v H' => ∃ b : Bool, v = .bl b ∧ Q (.bl b) H') E
theorem op_inOwn {X : Cx} {CX : CXT} {C f : Addr} {fd : FuncData} {ps : List Str} {n : Nat} {sp : Sp} {E : XK} (F : FnOk X.prog X.w X.K X.mg X.base CX n f fd ps sp) (hs : PySem.W.findIn X.K (.ref C) "__contains__" = some (some (.ref f))) (hf : PySem.W.isFn X.K (.ref f) = true) (hb : L2.Binds X.K fd ps []) (hx : Passes CX X E) (hr : Room (n + 1) X.A) :
    OpR X (compareOp .In) (rInOwn C sp E) := by
  intro pins s σ H x y u v Q I rx ry ⟨a, dx, fs, ey, ha, hsp⟩
  subst ey
  cases (show v = Value.ref a from ry)
  obtain ⟨mA, J, _⟩ := ins_get I.hok ha
  obtain ⟨od, J, _⟩ := J.look
  refine wpAny_bind (m := contains (.ref a) u) ?_
  unfold contains
  refine wpAny_holding ?_
  dsimp only [stdlibNamesSay?]
  unfold callSpecialUnlessNone? specialOf
  refine wpAny_bind (wpAny_bind (J.type.here ((PySem.W.looks_findIn I.kIn hs).here ?_)))
  show wpAny _ _ (if (some (Value.ref f) == some Value.none) = true then _ else _) _ _ _
  rw [if_neg (by simp)]
  refine wpAny_bind (wpAny_bind (wpAny_bind (J.type.here ((PySem.W.looks_findIn I.kIn hs).here ?_))))
  refine wpAny_holding (wpAny_bind ((PySem.W.bind_fn I.kIn _ (beq_iff_eq.mp hf)).here ?_))
  show wpAny _ _ (if (Value.ref f == Value.none) = true then _ else _) _ _ _
  rw [if_neg (by simp)]
  refine wpAny_bind (wpAny_mono (own_call (A := X.A) F hb hx (hr.mono (by omega)) rfl I (x := .ref a) rfl rx hsp) (fun w s' h => ?_) fun _ _ h => h)
  obtain ⟨z, H', rz, I', b, ez, q⟩ := h
  subst ez
  cases (show w = Value.bool b from rz)
  exact wpAny_pure (wpAny_truthy_bool (wpAny_pure ⟨.bl b, H', I', rfl, q⟩))
theorem inOwnOf {X : Cx} {CX : CXT} {K : PySem.W.Frag} {C f : Addr} {fd : FuncData} {ps : List Str} {n : Nat} {sp : Sp} {E : XK} (_ : X.K = K) (F : FnOk X.prog X.w X.K X.mg X.base CX n f fd ps sp) (hs : PySem.W.findIn X.K (.ref C) "__contains__" = some (some (.ref f))) (hf : PySem.W.isFn X.K (.ref f) = true) (hb : L2.Binds X.K fd ps []) (hx : Passes CX X E) (hr : Room (n + 1) X.A) :
    OpR X (compareOp .In) (rInOwn C sp E) := op_inOwn F hs hf hb hx hr
end Own
set_option Elab.async false
set_option linter.all false
set_option maxRecDepth 100000
set_option maxHeartbeats 2000000
/-! len(o) with an own __len__; t[::-1] of a tuple -/
namespace Own
open PySem PySem.Spec PyProof.Rows L2 PySem.W
section
variable {X : Cx} {C g : Addr} {gd : FuncData} {qs : List Str} {m : Nat} {sl : Sp} {E : XK}
/-- the number that an own __len__ tells -/
def LenIs (n : Nat) (H : Hp) : VK := fun v H' => v = .int n ∧ H' = H
theorem len_is (F : FnOk X.prog X.w X.K X.mg X.base CX0 m g gd qs sl) (hb : L2.Binds X.K gd qs []) {A : Around} (hr : Room (m + 1) A) (hfr : A.frames = X.A.frames)
    (hs : PySem.W.findIn X.K (.ref C) "__len__" = some (some (.ref g))) (hf : PySem.W.isFn X.K (.ref g) = true) {pins : List (Addr × Obj)} {s : Shared} {σ : L2.St} {H : Hp} {a dx : Addr} {fs : List (Str × V)} {k : Nat} (I : L2.Inv X pins σ H s) (ha : H a = some (.ins C dx fs)) (hk : k ≤ sizeLine) (hsp : sl [.ref a] H (LenIs k H) E) :
    wpAny (model X.prog X.w) A (call (.builtin "len") [.ref a]) (fun r s' => ∃ t : Tok, r = .int k t ∧ L2.Inv X pins σ H s') (fun _ _ => False) s := by
  obtain ⟨mA, J, _⟩ := ins_get I.hok ha
  obtain ⟨od0, J, _⟩ := J.look
  refine Calls.call_function_entry kind_len plain_len entry_len (args_len1 _) ?_
  unfold Builtin.«len»
  refine wpAny_bind (m := oneArg "len" _) (wpAny_pure ?_)
  refine wpAny_bind (m := callSpecial? (.ref a) (PySem.Str.ofString "__len__")) ?_
  unfold callSpecial? specialOf
  refine wpAny_bind (wpAny_bind (J.type.here ((PySem.W.looks_findIn I.kIn hs).here ?_)))
  refine wpAny_holding (wpAny_bind ((PySem.W.bind_fn I.kIn _ (beq_iff_eq.mp hf)).here ?_))
  refine wpAny_bind (wpAny_mono (own_call1 (A := A.in1) F hb (Room.in1 hr) hfr I (x := .ref a) rfl hsp) (fun w s' h => ?_) fun _ _ h => h)
  obtain ⟨z, H', rz, I', ez, eH⟩ := h
  subst ez
  subst eH
  obtain ⟨t, rfl⟩ := (show ∃ t, w = Value.int k t from rz)
  have hz : sizeLine = 16777216 := sizeLine_eq
  refine wpAny_pure (wpAny_bind (wpAny_holding (wpAny_pure ?_)))
  refine wpAny_bind (wpAny_letGo ?_)
  show wpAny _ _ (if ((k : Nat) : Int) < 0 then _ else _) _ _ _
  rw [if_neg (by omega)]
  show wpAny _ _ (if ((k : Nat) : Int) ≥ 2 ^ 63 then _ else _) _ _ _
  rw [if_neg (by omega)]
  exact wpAny_bind (wpAny_mkInt (wpAny_pure ⟨_, rfl, _, rfl, I'.tok _⟩))
def rLenOwn (C : Addr) (sl : Sp) (E : XK) : List V → Hp → VK → Prop := fun xs H Q => ∃ a dx fs n, xs = [.ref a] ∧ H a = some (.ins C dx fs) ∧ n ≤ sizeLine ∧ sl [.ref a] H (LenIs n H) E ∧ Q (.int (n : Nat)) H
theorem call_lenOwn (F : FnOk X.prog X.w X.K X.mg X.base CX0 m g gd qs sl) (hb : L2.Binds X.K gd qs []) (hr : Room (m + 1) X.A)
    (hs : PySem.W.findIn X.K (.ref C) "__len__" = some (some (.ref g))) (hf : PySem.W.isFn X.K (.ref g) = true) : CallR X (.builtin "len") (rLenOwn C sl E) := by
  rintro pins s σ H xs us Q I r ⟨a, dx, fs, n, rfl, ha, hn, hsp, q⟩
  obtain rfl := Vals.ref1 r
  exact wpAny_mono (len_is F hb hr rfl hs hf I ha hn hsp) (fun r s' ⟨t, e, I'⟩ => ⟨.int n, H, I', by rw [e]; exact ⟨t, rfl⟩, q⟩) fun _ _ h => h.elim
end
section
variable {prog : Program} {w : World} {A : Around} {E : Value → Shared → Prop} {s : Shared}
theorem places_rev (n : Nat) : Builtin.Slice.slicePlaces ((n : Int) - 1) (-1) (-1) = n := by
  unfold Builtin.Slice.slicePlaces
  have h1 : ¬ ((-1 : Int) > 0) := by omega
  simp only [h1, if_false]
  rw [show (- -1 : Int) = 1 by decide, Int.ediv_one]
  split <;> omega
theorem applied_rev {sl : Addr} {vl vu vs : Value} {n : Nat} {Q : Int × Int × Nat → Shared → Prop} (hs : s.heap.IsSliceOf sl vl vu vs) (pl : IsPart vl none) (pu : IsPart vu none) (ps : IsPart vs (some (-1)))
    (h : Q (((n : Nat) : Int) - 1, -1, n) s) : wpAny (model prog w) A (Builtin.Slice.sliceApplied (.ref sl) (pure (n : Int))) Q E s := by
  obtain ⟨os, hos, hcs, hds⟩ := id hs
  unfold Builtin.Slice.sliceApplied Builtin.Slice.sliceFields
  refine wpAny_bind (wpAny_bind (wpAny_field hos hds (x := vl) rfl (wpAny_bind (wpAny_field hos hds (x := vu) rfl (wpAny_bind (wpAny_field hos hds (x := vs) rfl (wpAny_pure ?_)))))))
  refine wpAny_bind (HT.slicePart_ ps ?_)
  show wpAny _ _ (if ((-1 : Int) == 0) = true then _ else _) _ _ s
  rw [if_neg (by decide)]
  refine wpAny_bind (HT.slicePart_ pl (wpAny_bind (HT.slicePart_ pu (wpAny_bind (wpAny_pure ?_)))))
  show wpAny _ _ (pure (((n : Int) - 1), (-1 : Int), Builtin.Slice.slicePlaces ((n : Int) - 1) (-1) (-1))) _ _ s
  rw [places_rev]
  exact wpAny_pure h
theorem pick_rev (xs : Array Value) : ((List.range xs.size).filterMap fun (m : Nat) => xs[(((xs.size : Nat) : Int) - 1 + (m : Int) * -1).toNat]?).toArray = xs.toList.reverse.toArray := by
  have e : ((List.range xs.size).filterMap fun (m : Nat) => xs[(((xs.size : Nat) : Int) - 1 + (m : Int) * -1).toNat]?) = ((List.range xs.size).map fun k => xs.size - 1 - k).filterMap (xs[·]?) := by
    rw [List.filterMap_map]
    refine congrArg (fun f => List.filterMap f _) (funext fun m => ?_)
    show xs[(((xs.size : Nat) : Int) - 1 + (m : Int) * -1).toNat]? = xs[xs.size - 1 - m]?
    by_cases h : m < xs.size
    · rw [show (((xs.size : Nat) : Int) - 1 + (m : Int) * -1).toNat = xs.size - 1 - m by omega]
    · rw [show (((xs.size : Nat) : Int) - 1 + (m : Int) * -1).toNat = xs.size - 1 - m by omega]
  rw [e, krv_range, List.filterMap_reverse, krv_all]
theorem getItem_tuple_rev {t sl : Addr} {items : Array Value} {vl vu vs : Value} {Q : Value → Shared → Prop} (ht : IsTup s.heap t items) (hs : s.heap.IsSliceOf sl vl vu vs) (pl : IsPart vl none) (pu : IsPart vu none) (ps : IsPart vs (some (-1)))
    (h : Q (.ref s.heap.objs.size) { s with heap := s.heap.push { cls := .type "tuple", data := .seq items.toList.reverse.toArray } })
    (hsz : items.size ≤ sizeLine) : wpAny (model prog w) A (getItem (.ref t) (.ref sl)) Q E s := by
  have htake : sizeOk (.seq items.toList.reverse.toArray) := by
    show items.toList.reverse.toArray.size ≤ sizeLine
    rw [List.size_toArray, List.length_reverse, Array.length_toList]
    exact hsz
  obtain ⟨os, hos, hcs, hds⟩ := id hs
  have hTs : s.TypeIs (.ref sl) "slice" := ⟨os, hos, hcs⟩
  unfold getItem
  try with_reducible refine wpAny_holding ?_
  first | refine wpAny_bind (wpAny_pure ?_) | skip
  refine wpAny_bind (wpAny_sequenceKey ht.typeIs (by decide) ?_)
  refine wpAny_bind (wpAny_callSpecial?_slot (name := Str.ofString "__getitem__") ht.typeIs PyProof.Rows.slot_tuple_getitem
    (wpAny_call_entry PyProof.Rows.slot_tuple_getitem ht.typeIs PyProof.Rows.entry_tuple_getitem ?_ (PyProof.Rows.args_tuple_getitem _ _)))
  show wpAny _ _ (Builtin.Tuple.tupleItemsOf (.ref t) >>= _) _ _ s
  refine wpAny_bind (tupleItemsOf_ ht ?_)
  refine wpAny_bind (wpAny_typeOf hTs ?_)
  rw [if_pos (by decide)]
  refine wpAny_bind (applied_rev hs pl pu ps ?_)
  have hno : ¬ ((((items.size : Int) - 1) == 0 && (-1 : Int) == 1 && items.size == items.size) = true) := by
    intro q
    rw [Bool.and_eq_true, Bool.and_eq_true] at q
    exact absurd (eq_of_beq q.1.2) (by decide)
  show wpAny _ _ (if (((items.size : Int) - 1) == 0 && (-1 : Int) == 1 && items.size == items.size) = true then _ else _) _ _ s
  rw [if_neg hno, pick_rev]
  first
    | exact wpAny_bind (m := Builtin.Tuple.tupleExact _) (wpAny_newObj_type (wpAny_pure ⟨_, rfl, wpAny_pure h⟩) htake)
    | exact wpAny_bind (m := Builtin.Tuple.tupleExact _) (wpAny_newObj_type (wpAny_bind (wpAny_pure (wpAny_pure ⟨_, rfl, wpAny_pure h⟩))) htake)
    | exact wpAny_bind (wpAny_bind (m := Builtin.Tuple.tupleExact _) (wpAny_newObj_type (wpAny_pure (wpAny_pure ⟨_, rfl, wpAny_pure h⟩)) htake))
    | exact wpAny_bind (wpAny_bind (m := Builtin.Tuple.tupleExact _) (wpAny_newObj_type (wpAny_pure ⟨_, rfl, wpAny_pure h⟩) htake))
end
def tRevT (K : PySem.W.Frag) (te : TE) : TE := fun σ H Q => te σ H fun x H1 => ∃ a xs, x = .ref a ∧ SqT K H1 a xs ∧ ∀ p, H1 p = none → Q (.ref p) (upd H1 p (.tup xs.reverse))
theorem pe_revT {X : Cx} {e : Expr} {te : TE} {k : Nat} {p1 p2 p3 pos : Pos} (he : PE X e te) : PE X (.Subscript e (.Slice none none (some (.UnaryOp .USub (.Constant (.int 1) k p1) p2)) p3) pos) (tRevT X.K te) := by
  refine ⟨fun pins s σ H Q I h => ?_⟩
  refine Subscript_ (thn (he.run pins s σ H _ I h) fun v s1 ⟨x, H1, I1, r1, q1⟩ => ?_)
  obtain ⟨a, xs, ex, hx, q⟩ := q1
  subst ex
  cases r1
  have hst : PO X (some (.UnaryOp .USub (.Constant (.int 1) k p1) p2)) (tPart (tUn (rU fun i => .int (-i)) (tC (.int 1)))) := po_some (pe_un un_neg pe_int)
  refine wpAny_Slice (thn (po_none.run pins s1 σ H1 (fun o H2 => o = none ∧ H2 = H1) I1 ⟨rfl, rfl⟩) fun vl s2 ⟨l, H2, I2, pl, el, e2⟩ => ?_)
  subst el e2
  refine thn (po_none.run pins s2 σ H2 (fun o H3 => o = none ∧ H3 = H2) I2 ⟨rfl, rfl⟩) fun vu s3 ⟨u, H3, I3, pu, eu, e3⟩ => ?_
  subst eu e3
  refine thn (hst.run pins s3 σ H3 (fun o H4 => o = some (-1) ∧ H4 = H3) I3 ⟨1, rfl, -1, rfl, rfl, rfl⟩) fun vs s4 ⟨o, H4, I4, ps, eo, e4⟩ => ?_
  subst eo e4
  have I5 : L2.Inv X pins σ H4 { s4 with heap := s4.heap.push { cls := .type "slice", data := .fields #[vl, vu, vs] } } := I4.kept (t' := s4.toks) fun b ob q => Heap.get?_push_of_some _ q
  obtain ⟨its, r, ht, hz⟩ := I5.tuple hx
  have hlen : its.toArray.size = xs.length := by rw [List.size_toArray]; exact r.length.symm
  show wpAny (model X.prog X.w) X.A (subscriptTail e (.Slice none none (some (.UnaryOp .USub (.Constant (.int 1) k p1) p2)) p3) (.ref a) (.ref s4.heap.objs.size)) (EP X pins σ Q) X.xe { s4 with heap := s4.heap.push { cls := .type "slice", data := .fields #[vl, vu, vs] } }
  refine tail_any (ops := [.ref a, .ref s4.heap.objs.size]) ht.typeIs (PyProof.Rows.slot_tuple_getitem.lookup) ?_ (by with_unfolding_all rfl)
  refine getItem_tuple_rev ht (Heap.IsSliceOf.new _ vl vu vs) pl pu ps ?_ (by rw [hlen]; exact hz)
  refine ⟨.ref _, _, I5.laid (t' := s4.toks) (o := .tup xs.reverse) (fun b ob q => Heap.get?_push_of_some _ q) (Nat.le_refl _) ?_, rfl, q _ (I5.hok.fresh (Nat.le_refl _))⟩
  exact ⟨by rw [List.length_reverse]; exact hz, _, r.reverse, IsTup.new _ _⟩
/-! ### an int on the left -/
theorem int_declines {prog : Program} {w : World} {A : Around} {E : Value → Shared → Prop} {s : Shared} {i : Int} {t : Tok} {x C dx : Addr} (hx : s.heap.get? x = some (PySem.W.instObj C dx)) :
    wpAny (model prog w) A (tryCompare (.int i t) "__eq__" (.ref x)) (fun r s' => r = none ∧ s' = s) E s := by
  have hT : s.TypeIs (.int i t) "int" := rfl
  refine wpAny_tryCompare_declines hT PySem.F.slot_int_eq_refl (wpAny_call (codeAny_call_builtin PySem.F.slot_int_eq_refl.plain PySem.F.entry_int_eq (PySem.F.slot_int_eq_refl.check _ _ _ _ _ _ _ _ hT (PySem.F.args_int_eq_2 _ _) ?_)))
  show wpAny _ _ (Builtin.Int.intBinary "__eq__" (fun x y => ret (.bool (x == y))) false ⟨[.int i t, .ref x], []⟩) _ _ _
  unfold Builtin.Int.intBinary
  refine wpAny_bind (m := slotArgs "__eq__" 1 _) (wpAny_pure ?_)
  refine wpAny_bind (m := Builtin.Int.intOfSelf (.int i t)) ?_
  unfold Builtin.Int.intOfSelf
  refine wpAny_bind (m := asInt? (.int i t)) (wpAny_pure (wpAny_pure ?_))
  refine wpAny_bind (m := asInt? (.ref x)) ?_
  unfold asInt?
  refine wpAny_bind (m := load x) (wpAny_load hx (wpAny_pure ?_))
  refine wpAny_bind (wpAny_rule (wpAny_pure ?_))
  first
    | exact ⟨trivial, rfl, rfl⟩
    | exact ⟨trivial, trivial, rfl⟩
    | exact ⟨trivial, rfl⟩
    | simp
section
variable {X : Cx} {CX : CXT} {C f : Addr} {fd : FuncData} {ps : List Str} {n : Nat} {sp : Sp} {E : XK}
def rIntL (C : Addr) (sp : Sp) (E : XK) : R2 := fun x y H Q => ∃ i a dx fs, x = .int i ∧ y = .ref a ∧ H a = some (.ins C dx fs) ∧ sp [y, x] H (fun v H' => ∃ b : Bool, v = .bl b ∧ Q (.bl b) H') E
theorem op_eqIntL (F : FnOk X.prog X.w X.K X.mg X.base CX n f fd ps sp) (hsub : PySem.W.subIn X.K (.ref C) (.type "int") = some false)
    (hs : PySem.W.findIn X.K (.ref C) "__eq__" = some (some (.ref f))) (hf : PySem.W.isFn X.K (.ref f) = true) (hb : L2.Binds X.K fd ps []) (hx : Passes CX X E) (hr : Room n X.A) :
    OpR X (compareOp .Eq) (rIntL C sp E) := by
  intro pins s σ H x y u v Q I rx ry ⟨i, a, dx, fs, ex, ey, ha, hsp⟩
  subst ex
  subst ey
  obtain ⟨t, rfl⟩ := (show ∃ t, u = Value.int i t from rx)
  cases (show v = Value.ref a from ry)
  obtain ⟨mA, J0, _⟩ := ins_get I.hok ha
  obtain ⟨od, J, _⟩ := J0.look
  show wpAny (model X.prog X.w) X.A (richCompare .Eq (.int i t) (.ref a)) (EP X pins σ Q) X.xe s
  refine rc_left hr.units0 I.kIn J (show s.TypeIs (.int i t) "int" from rfl) hsub rfl (int_declines J0.obj) hs hf ?_
  refine wpAny_mono (own_call F hb hx hr rfl I (x := .ref a) (y := .int i) rfl ⟨t, rfl⟩ hsp) (fun w s' h => ?_) fun _ _ h => h
  obtain ⟨z, H', rz, I', b, ez, q⟩ := h
  subst ez
  cases (show w = Value.bool b from rz)
  exact ⟨b, rfl, .bl b, H', I', rfl, q⟩
end
end Own
set_option Elab.async false
set_option linter.all false
set_option maxRecDepth 100000
set_option maxHeartbeats 2000000
/-! a dict written with other dicts in it -/
namespace Own
open PySem PySem.Spec PyProof.Rows L2
section
variable {prog : Program} {w : World} {K : Type} [DecidableEq K] {knd : KeyKind prog w K} {A : Around} {E : Value → Shared → Prop} {s : Shared}
theorem put_pairs {d : Addr} {kvs : List (K × Value)} {k : K} {key v : Value} {Q : Unit → Shared → Prop} (hkey : knd.is k key = true) (hm : s.heap.DictOf knd d kvs)
    (hQ : ∀ h', h'.DictOf knd d (stored kvs k v) → Heap.SameBut d s.heap h' → Q () { s with heap := h' }) (hsz : kvs.length ≤ sizeLine) :
    wpAny (model prog w) A (dictPut d (knd.hash k) key v) Q E s := by
  obtain ⟨o, es, ep, ho, hc, hd, hk, hp, hn⟩ := hm
  have hes : es.size ≤ sizeLine := by
    have e1 := hp.length
    rw [Array.length_toList] at e1
    omega
  unfold dictPut
  refine wpAny_bind (wpAny_dictFind_of hkey ho hd hk ?_)
  have hidx : (es.findIdx? fun e => knd.is k e.key) = kvs.findIdx? fun kv => decide (kv.1 = k) := by
    rw [← hp.findIdx k]; obtain ⟨l⟩ := es; simp
  cases hi : es.findIdx? fun e => knd.is k e.key with
  | some i =>
    refine wpAny_updateDict ho hd (hQ _ ⟨_, _, ep, Heap.get?_update_self _ ho (Obj.isFreed_of_dict (Obj.data_mapDict hd _)), hc.mapDict _, Obj.data_mapDict hd _, hk.modify _ _, ?_, ?_⟩ (Heap.SameBut.update ..))
    · rw [stored, if_pos (any_of_findIdx_some (hidx ▸ hi))]
      have hl : (es.toList.findIdx? fun e => knd.is k e.key) = some i := by rw [← hi]; obtain ⟨l⟩ := es; simp
      have := hp.modify hn hl v
      obtain ⟨l⟩ := es
      simpa using this
    · rw [stored, if_pos (any_of_findIdx_some (hidx ▸ hi)), keys_map_store]; exact hn
  | none =>
    have hnot : k ∉ kvs.map (·.1) := not_mem_of_findIdx_none (hidx ▸ hi)
    have hany : ¬ (kvs.any fun kv => decide (kv.1 = k)) = true := by
      rw [List.any_eq_true]; rintro ⟨kv, hkv, he⟩
      exact hnot (List.mem_map.mpr ⟨kv, hkv, of_decide_eq_true he⟩)
    refine wpAny_updateDictKeys (hz := hes) ho hd (hQ _ ⟨_, _, ep + 1, Heap.get?_update_self _ ho (Obj.isFreed_of_dict (Obj.data_mapDictKeys hd _)), hc.mapDictKeys _, Obj.data_mapDictKeys hd _, hk.push hkey _, ?_, ?_⟩ (Heap.SameBut.update ..))
    · rw [stored, if_neg hany]
      have := hp.append hkey (knd.hash k) v
      obtain ⟨l⟩ := es
      simpa using this
    · rw [stored, if_neg hany, List.map_append, List.nodup_append]
      refine ⟨hn, by simp, ?_⟩
      intro a ha b hb
      simp only [List.map_cons, List.map_nil, List.mem_singleton] at hb
      subst hb
      exact fun e => hnot (e ▸ ha)
theorem merge_pairs {d o : Addr} {kvs more : List (K × Value)} {Q : Unit → Shared → Prop} (nr : ∀ k v, knd.is k v = true → ∀ a, v ≠ .ref a) (hdo : d ≠ o) (hoS : (o == sysModules) = false) (hd : s.heap.DictOf knd d kvs) (ho : s.heap.DictOf knd o more)
    (hQ : ∀ h', h'.DictOf knd d (merged kvs more) → h'.DictOf knd o more → Heap.SameBut d s.heap h' → Q () { s with heap := h' }) (hsz : kvs.length + more.length ≤ sizeLine) :
    wpAny (model prog w) A (mergeMapping d (.ref o) false) Q E s := by
  obtain ⟨od, esd, epd, hod, hcd, hdd, hkd, hpd, hnd⟩ := id hd
  obtain ⟨oo, eso, epo, hoo, hco, hdo', hko, hpo, hno⟩ := id ho
  have hlen : more.length = eso.size := by rw [← hpo.length]; simp
  have loop : wpAny (model prog w) A (do
      let l ← dictEntries o
      have size : Nat := l.size
      let epoch ← dictEpoch o
      forIn (List.range size) PUnit.unit fun i (_ : PUnit) => (do
        let l' ← dictEntries o
        match l'[i]? with
          | some e => do
            holding [e.key, e.val] (dictPut d e.hash e.key e.val)
            let ep' ← dictEpoch o
            if (ep' != epoch) = true then do
                (unsupported "dict.changed-during-merge" : Sem PUnit)
                pure (ForInStep.yield PUnit.unit)
              else pure (ForInStep.yield PUnit.unit)
          | _ => do
            (unsupported "dict.changed-during-merge" : Sem PUnit)
            pure (ForInStep.yield PUnit.unit) : Sem (ForInStep PUnit))
      pure ()) Q E s := by
    refine wpAny_bind (wpAny_dictEntries hoo hdo' ?_)
    refine wpAny_bind (wpAny_dictEpoch hoo hdo' ?_)
    refine wpAny_bind ?_
    rw [show List.range eso.size = List.range' 0 eso.size from List.range_eq_range']
    refine wpAny_forIn_list _
      (fun rest _ s' => ∃ h' i, s' = { s with heap := h' } ∧ rest = List.range' i (eso.size - i) ∧ i ≤ eso.size ∧ h'.DictOf knd d (merged kvs (more.take i)) ∧ h'.get? o = some oo ∧ Heap.SameBut d s.heap h')
      _ ?_ ?_ _ _ ⟨s.heap, 0, rfl, by simp, Nat.zero_le _, by simpa [merged] using hd, hoo, Heap.SameBut.refl _ _⟩
    · rintro x rest b s' ⟨h', i, rfl, hr, hi, hd', hoo', hs'⟩
      have hlt : i < eso.size := by
        rcases Nat.lt_or_ge i eso.size with h | h
        · exact h
        · rw [Nat.sub_eq_zero_of_le h] at hr; simp at hr
      obtain ⟨rfl, hrest⟩ : x = i ∧ rest = List.range' (i + 1) (eso.size - (i + 1)) := by
        have e : eso.size - i = (eso.size - (i + 1)) + 1 := by omega
        rw [e, List.range'_succ] at hr
        injection hr with h1 h2
        exact ⟨h1, h2⟩
      refine wpAny_bind (wpAny_dictEntries hoo' hdo' ?_)
      rw [Array.getElem?_eq_getElem hlt]
      obtain ⟨kv, hkv⟩ : ∃ kv, more[x]? = some kv := ⟨more[x]'(by rw [hlen]; exact hlt), List.getElem?_eq_getElem _⟩
      obtain ⟨k, v⟩ := kv
      obtain ⟨hkey, hval⟩ := hpo.get? (e := eso[x]) (by simp [hlt]) hkv
      obtain ⟨k', hkey', hhash⟩ := hko eso[x] (Array.getElem_mem hlt)
      obtain rfl : k' = k := knd.inj _ _ _ hkey' hkey
      show wpAny _ _ (holding [eso[x].key, eso[x].val] (dictPut d eso[x].hash eso[x].key eso[x].val) >>= _) _ _ _
      rw [hhash, hval]
      have hmx : (merged kvs (more.take x)).length ≤ sizeLine := by
        have e1 := merged_length_le kvs (more.take x)
        have e2 : (more.take x).length ≤ more.length := by rw [List.length_take]; omega
        omega
      refine wpAny_bind (wpAny_holding (put_pairs hkey hd' (fun h'' hd'' hs'' => ?_) hmx))
      have hoo'' : h''.get? o = some oo := (hs''.2 o (Ne.symm hdo)).trans hoo'
      refine wpAny_bind (wpAny_dictEpoch hoo'' hdo' ?_)
      rw [if_neg (by simp)]
      exact wpAny_pure ⟨h'', x + 1, rfl, hrest, hlt, by rw [merged_take_succ kvs more x (k', v) hkv]; exact hd'', hoo'', hs'.trans hs''⟩
    · rintro b s' ⟨h', i, rfl, hr, hi, hd', hoo', hs'⟩
      have hin : i = eso.size := by
        rcases Nat.lt_or_ge i eso.size with h | h
        · have e : eso.size - i = (eso.size - (i + 1)) + 1 := by omega
          rw [e, List.range'_succ] at hr; exact nomatch hr
        · exact Nat.le_antisymm hi h
      refine wpAny_pure (hQ h' ?_ ⟨oo, eso, epo, hoo', hco, hdo', hko, hpo, hno⟩ hs')
      rw [hin, ← hlen, List.take_length] at hd'; exact hd'
  unfold mergeMapping
  refine wpAny_bind (m := isInstance (.ref o) (.type "dict")) (wpAny_isInstance ho.typeIs isSubtype_dict_dict ?_)
  simp only [if_true]
  refine wpAny_bind (wpAny_specialOf ho.typeIs F.slot_dict_iter.lookup ?_)
  simp only [beq_self_eq_true]
  show wpAny _ _ (if (o == sysModules) = true then _ else _) _ _ _
  rw [if_neg (by rw [hoS]; exact Bool.false_ne_true)]
  refine wpAny_bind (wpAny_dictEntries hod hdd ?_)
  split
  · refine wpAny_bind (wpAny_dictEntries hoo hdo' ?_)
    refine wpAny_bind (m := forIn eso PUnit.unit _) (wpAny_of_eq (a := PUnit.unit) ?_ loop)
    rw [← Array.forIn_toList]
    refine forIn_yield_id _ fun e he c => ?_
    obtain ⟨k, hkey, _⟩ := hko e (Array.mem_toList_iff.mp he)
    cases hv : e.key with
    | ref a => exact absurd hv (nr k _ hkey a)
    | _ => rfl
  · exact loop
end
theorem key_nref {P : Program} {w : World} (k : Key) (v : Value) (h : (mixKind P w).is k v = true) (a : Addr) : v ≠ .ref a := fun e => by
  rcases keyIs_shape h with ⟨i, t, _, q⟩ | ⟨x, t, _, q⟩ <;> (rw [q] at e; cases e)
section
variable {X : Cx} {pins : List (Addr × Obj)} {σ : L2.St} {H : Hp} {s : Shared} {A : Around} {E : Value → Shared → Prop}
theorem d_merge {p a : Addr} {kp ka : List (Key × V)} {Q : Unit → Shared → Prop} (I : L2.Inv X pins σ H s) (hp : H p = some (.dK kp)) (ha : Rd H a (.dK ka)) (ne : p ≠ a) (hsz : kp.length + ka.length ≤ sizeLine)
    (q : ∀ s', L2.Inv X pins σ (upd H p (.dK (mergeK kp ka))) s' → Q () s') : wpAny (model X.prog X.w) A (mergeMapping p (.ref a) false) Q E s := by
  obtain ⟨z, hd, vs0, r0, dp⟩ := dk_of I.hok hp
  obtain ⟨_, lo, vs, rel, da⟩ := dk_rd I.hok ha
  refine merge_pairs (knd := mixKind X.prog X.w) key_nref ne lo dp da (fun h' d1 _ hs => ?_) (by rw [← r0.length, ← rel.length]; exact hsz)
  have he : ∃ q, h'.get? p = some q := let ⟨q, _, _, hq, _⟩ := d1; ⟨q, hq⟩
  exact q _ (d_write (t' := s.toks) I (by rw [hp]; exact True.intro) hs he (dk_new (Nat.le_trans (length_mergeK ka kp) hsz) hd (rel.merge r0) d1))
end
/-- {**a, **b} -/
def tMerge2 (ta tb : TE) : TE := fun σ H Q => ∀ p, H p = none → ta σ (upd H p (.dK [])) fun x H1 => ∃ a ka, x = .ref a ∧ H1 p = some (.dK []) ∧ Rd H1 a (.dK ka) ∧ p ≠ a ∧ ka.length ≤ 1000 ∧
  tb σ (upd H1 p (.dK (mergeK [] ka))) fun y H2 => ∃ b kb, y = .ref b ∧ H2 p = some (.dK (mergeK [] ka)) ∧ Rd H2 b (.dK kb) ∧ p ≠ b ∧ kb.length ≤ 1000 ∧ Q (.ref p) (upd H2 p (.dK (mergeK (mergeK [] ka) kb)))
theorem pe_merge2 {X : Cx} {ea eb : Expr} {ta tb : TE} {pos : Pos} (ha : PE X ea ta) (hb : PE X eb tb) : PE X (.Dict [none, none] [ea, eb] pos) (tMerge2 ta tb) := by
  refine ⟨fun pins s σ H Q I q => ?_⟩
  have hn := I.hok.fresh (Nat.le_refl s.heap.objs.size)
  have I1 := I.laid (a := s.heap.objs.size) (o := .dK []) (h' := s.heap.push { cls := .type "dict", data := .dict #[] }) (t' := s.toks) (fun _ _ q => Heap.get?_push_of_some _ q) (Nat.le_refl _) (dk_empty s.heap I.big)
  rw [arm_eval_Dict]
  refine wpAny_bind (wpAny_standAt ?_)
  show wpAny (model X.prog X.w) X.A (dictDisplay [(none, do let x ← eval ea X.env; standAt pos; pure x), (none, do let x ← eval eb X.env; standAt pos; pure x)]) _ _ _
  unfold dictDisplay
  simp only [List.forIn_cons, List.forIn_nil, List.isEmpty_nil, if_true, pure_bind, bind_assoc, List.isEmpty]
  refine wpAny_bind (wpAny_alloc ?_)
  refine wpAny_bind (wpAny_holding (wpAny_bind (thn (ha.run pins _ σ _ _ I1 (q _ hn)) fun u s1 ⟨x, H1, I2, r1, a, ka, ex, h1, h2, h3, h4, q1⟩ => wpAny_bind (wpAny_standAt (wpAny_pure ?_)))))
  subst ex
  cases (show u = Value.ref a from r1)
  have z1 : (1000 : Nat) ≤ sizeLine := by rw [sizeLine_eq]; decide
  refine wpAny_bind (wpAny_onRaise (wpAny_tryCatch (wpAny_onRaise (wpAny_holding (d_merge I2 h1 h2 h3 (by rw [List.length_nil, Nat.zero_add]; exact Nat.le_trans h4 z1) fun s2 I3 => ?_)))))
  refine wpAny_bind (wpAny_holding (wpAny_bind (thn (hb.run pins _ σ _ _ I3 q1) fun u s3 ⟨y, H2, I4, r2, b, kb, ey, g1, g2, g3, g4, q2⟩ => wpAny_bind (wpAny_standAt (wpAny_pure ?_)))))
  subst ey
  cases (show u = Value.ref b from r2)
  have l1 := length_mergeK ka []
  rw [List.length_nil] at l1
  refine wpAny_bind (wpAny_onRaise (wpAny_tryCatch (wpAny_onRaise (wpAny_holding (d_merge I4 g1 g2 g3 (by rw [sizeLine_eq]; omega) fun s4 I5 => ?_)))))
  exact wpAny_pure ⟨.ref _, _, I5, rfl, q2⟩
/-- {**a, k: v} -/
def tMerge1 (ta tk tv : TE) : TE := fun σ H Q => ∀ p, H p = none → ta σ (upd H p (.dK [])) fun x H1 => ∃ a ka, x = .ref a ∧ H1 p = some (.dK []) ∧ Rd H1 a (.dK ka) ∧ p ≠ a ∧ ka.length ≤ 1000 ∧
  ∀ q, upd H1 p (.dK (mergeK [] ka)) q = none → tk σ (upd (upd H1 p (.dK (mergeK [] ka))) q (.dK [])) fun k H3 => tv σ H3 fun v H4 => H4 q = some (.dK []) ∧ H4 p = some (.dK (mergeK [] ka)) ∧ p ≠ q ∧ ∃ key, k = kV key ∧ Q (.ref p) (upd (upd H4 q (.dK [(key, v)])) p (.dK (putK (mergeK [] ka) key v)))
theorem pe_merge1 {X : Cx} {ea ek ev : Expr} {ta tk tv : TE} {pos : Pos} (ha : PE X ea ta) (hk : PE X ek tk) (hv : PE X ev tv) : PE X (.Dict [none, some ek] [ea, ev] pos) (tMerge1 ta tk tv) := by
  refine ⟨fun pins s σ H Q I q => ?_⟩
  have hn := I.hok.fresh (Nat.le_refl s.heap.objs.size)
  have I1 := I.laid (a := s.heap.objs.size) (o := .dK []) (h' := s.heap.push { cls := .type "dict", data := .dict #[] }) (t' := s.toks) (fun _ _ q => Heap.get?_push_of_some _ q) (Nat.le_refl _) (dk_empty s.heap I.big)
  rw [arm_eval_Dict]
  refine wpAny_bind (wpAny_standAt ?_)
  show wpAny (model X.prog X.w) X.A (dictDisplay [(none, do let x ← eval ea X.env; standAt pos; pure x), (some (eval ek X.env), do let x ← eval ev X.env; standAt pos; pure x)]) _ _ _
  unfold dictDisplay
  simp only [List.forIn_cons, List.forIn_nil, List.isEmpty_nil, if_true, pure_bind, bind_assoc, List.isEmpty, List.nil_append, List.length_cons, List.length_nil]
  refine wpAny_bind (wpAny_alloc ?_)
  refine wpAny_bind (wpAny_holding (wpAny_bind (thn (ha.run pins _ σ _ _ I1 (q _ hn)) fun u s1 ⟨x, H1, I2, r1, a, ka, ex, h1, h2, h3, h4, q1⟩ => wpAny_bind (wpAny_standAt (wpAny_pure ?_)))))
  subst ex
  cases (show u = Value.ref a from r1)
  have z1 : (1000 : Nat) ≤ sizeLine := by rw [sizeLine_eq]; decide
  refine wpAny_bind (wpAny_onRaise (wpAny_tryCatch (wpAny_onRaise (wpAny_holding (d_merge I2 h1 h2 h3 (by rw [List.length_nil, Nat.zero_add]; exact Nat.le_trans h4 z1) fun s2 I3 => ?_)))))
  rw [if_neg (show ¬ ((0 + 1 == 17) = true) by decide)]
  simp only [pure_bind, bind_assoc, Bool.false_eq_true, if_false]
  show wpAny _ _ (holding [Value.ref s.heap.objs.size] (subDict [(eval ek X.env, do let x ← eval ev X.env; standAt pos; pure x)]) >>= _) _ _ _
  have hn2 := I3.hok.fresh (Nat.le_refl s2.heap.objs.size)
  have I3' := I3.laid (a := s2.heap.objs.size) (o := .dK []) (h' := s2.heap.push { cls := .type "dict", data := .dict #[] }) (t' := s2.toks) (fun _ _ q => Heap.get?_push_of_some _ q) (Nat.le_refl _) (dk_empty s2.heap I3.big)
  refine wpAny_bind (wpAny_holding (wpAny_subDict (knd := mixKind X.prog X.w) (by show 1 ≤ 15; decide) ?_))
  refine evalPairs_cons (thn (hk.run pins _ σ _ _ I3' (q1 _ hn2)) fun uk s4 ⟨yk, H3, I4, rk, q2⟩ => ?_)
  refine wpAny_bind (thn (hv.run pins _ σ _ _ I4 q2) fun uv s5 ⟨yv, H4, I5, rv, g1, g2, g3, key, ey, q3⟩ => wpAny_bind (wpAny_standAt (wpAny_pure ?_)))
  refine evalPairs_nil ?_
  subst ey
  obtain ⟨z, hd, vs0, r0, dd⟩ := dk_of I5.hok g1
  cases r0
  refine ⟨[(key, uv)], ⟨kV_is rk, rfl, trivial⟩, dd, fun h' d1 hs => ?_⟩
  have he : ∃ q, h'.get? s2.heap.objs.size = some q := let ⟨q, _, _, hq, _⟩ := d1; ⟨q, hq⟩
  have I6 : L2.Inv X pins σ (upd H4 s2.heap.objs.size (.dK [(key, yv)])) { s5 with heap := h', toks := s5.toks + 1 } := d_write I5 (by rw [g1]; exact True.intro) hs he (dk_new (by show 1 ≤ sizeLine; rw [sizeLine_eq]; decide) hd (.cons ⟨rfl, rv⟩ .nil) d1)
  have l1 := length_mergeK ka []
  rw [List.length_nil] at l1
  have m1 : upd H4 s2.heap.objs.size (.dK [(key, yv)]) s.heap.objs.size = some (.dK (mergeK [] ka)) := by rw [upd_ne g3]; exact g2
  refine wpAny_bind (wpAny_onRaise (wpAny_holding (d_merge I6 m1 (.inl upd_same) g3 (by rw [sizeLine_eq]; show _ + 1 ≤ _; omega) fun s7 I7 => ?_)))
  exact wpAny_pure ⟨.ref _, _, I7, rfl, q3⟩
end Own
set_option Elab.async false
set_option linter.all false
set_option maxRecDepth 100000
set_option maxHeartbeats 2000000
/-! an exception out of a loop over a locked dict -/
namespace Own
open PySem PySem.Spec PyProof.Rows L2
theorem takes_unlock {X : Cx} {W : WX} (tk : Takes X W) : Takes X (fun c d σ H => ∃ p od u, H p = some (.frz od u) ∧ (∀ o' u', X.H_0 p ≠ some (.frz o' u')) ∧ W c d σ (upd H p u)) := fun u s' ⟨a, B, sI, pins, σ, H, cls, d, e, I, nb, up, sky, na, os, ag, p, od, u0, h1, h2, w⟩ =>
  tk u s' ⟨a, B, sI, pins, σ, upd H p u0, cls, d, e, I.unlock h1 h2, nb, up, sky, by rw [upd_ne (fun z => by rw [z, h1] at na; cases na)]; exact na, os, ag, w⟩
end Own
set_option Elab.async false
set_option linter.all false
set_option maxRecDepth 100000
set_option maxHeartbeats 2000000
/-! a dict not in a list of dicts -/
namespace Own
open PySem PySem.Spec PyProof.Rows L2
section
open PySem.AutoSeq1 PySem.MeetsSeq PySem.SeqAt PySem.W
variable {prog : Program} {w : World}
/-- what `in` of a list asks at each step, in one program -/
def stepD (prog : Program) (w : World) (l : Addr) (zs : Array Value) (n : Nat) (dd : Option Addr) (sl : Array (Option Value)) (x : Value) (e : Value → Bool) (b : Bool) : PySem.Spec := fun A R s =>
  s.heap.get? l = some ⟨.type "list", dd, .seq zs n, sl⟩ ∧ (∀ y ∈ zs, EqIn prog w A.in1 s y x (e y)) ∧ R (.ok (.ret (.bool b))) s
theorem loopD {l : Addr} {zs : Array Value} {n : Nat} {dd : Option Addr} {sl : Array (Option Value)} {x : Value} {e : Value → Bool} : ∀ (m i : Nat), zs.size - i = m →
    MeetsIn prog w (Builtin.«list.__contains__.loop» ⟨[.ref l, x, rawInt i], []⟩) (stepD prog w l zs n dd sl x e ((zs.toList.drop i).any e))
  | 0, i, hm => by
    rintro A R ⟨hp, g, d, tk, os⟩ ⟨q1, q2, q3⟩
    wp_walk using wpAny_loadPart' q1
    have z1 : zs[(i : Int).toNat]? = none := by simp; omega
    rw [show zs.toList.drop i = [] by simp; omega] at q3
    rw [z1]
    wp_walk
    exact q3
  | m + 1, i, hm => by
    rintro A R ⟨hp, g, d, tk, os⟩ ⟨q1, q2, q3⟩
    have lt : i < zs.size := by omega
    wp_walk using wpAny_loadPart' q1
    have z1 : zs[(i : Int).toNat]? = some zs[i] := by simp [lt]
    rw [show zs.toList.drop i = zs[i] :: zs.toList.drop (i + 1) by simp [List.drop_eq_getElem_cons, lt], List.any_cons] at q3
    rw [z1]
    refine wpAny_bind (q2 _ (Array.getElem_mem lt) _ _ ?_)
    by_cases c : e zs[i] = true
    · rw [c] at q3 ⊢
      wp_walk
      exact q3
    · have c : e zs[i] = false := by simpa using c
      rw [c] at q3 ⊢
      wp_walk
      rw [show ((i : Int) + 1) = ((i + 1 : Nat) : Int) by push_cast; rfl]
      refine ⟨plainId_quiet plain_contains_loop _, codeAny_builtin entry_contains_loop ?_⟩
      rw [Around.under_plainId plain_contains_loop _]
      exact loopD m (i + 1) (by omega) A R _ ⟨q1, q2, by simpa using q3⟩
theorem listD {l : Addr} {zs : Array Value} {n : Nat} {dd : Option Addr} {sl : Array (Option Value)} {x : Value} {e : Value → Bool} :
    MeetsIn prog w (Builtin.«list.__contains__» ⟨[.ref l, x], []⟩) (stepD prog w l zs n dd sl x e (zs.any e)) := by
  rintro A R ⟨hp, g, d, tk, os⟩ ⟨q1, q2, q3⟩
  wp_walk using wpAny_loadPart' q1
  refine ⟨plainId_quiet plain_contains_loop _, codeAny_builtin entry_contains_loop ?_⟩
  rw [Around.under_plainId plain_contains_loop _]
  exact loopD _ 0 rfl A R _ ⟨q1, q2, by simpa using q3⟩
theorem notInD {A : Around} {E : Value → Shared → Prop} {s : Shared} {l : Addr} {zs : Array Value} {x : Value} {Q : Value → Shared → Prop} (e : Value → Bool) (hl : s.heap.IsList l zs) (he : ∀ y ∈ zs, EqIn prog w A.in1 s y x (e y)) (h : Q (.bool (!zs.any e)) s) :
    wpAny (model prog w) A (compareOp .NotIn x (.ref l)) Q E s := by
  obtain ⟨⟨cls, dd, data, sl⟩, ho, hc, n, hd⟩ := id hl
  cases (show cls = _ from hc)
  cases (show data = _ from hd)
  have ty : s.TypeIs (.ref l) "list" := ⟨_, ho, rfl⟩
  show wpAny _ A (do return .bool (!(← contains (.ref l) x))) Q E s
  refine wpAny_bind (wpAny_contains_slot ty F.slot_list_contains (wpAny_mono (call_meetsIn F.slot_list_contains ty F.entry_list_contains (F.args_list_contains_2 _ _) (listD (n := n) (dd := dd) (sl := sl) (x := x) (e := e)) (Q := fun v s' => ∃ b, v = .bool b ∧ Q (.bool !b) s') (E := E) ⟨ho, he, _, rfl, h⟩) (fun v s' hv => ?_) fun _ _ z => z))
  obtain ⟨b, rfl, q⟩ := hv
  exact wpAny_truthy_bool (wpAny_pure q)
end
theorem vals_refs : ∀ {bs : List Addr} {its : List Value}, Vals (bs.map V.ref) its → its = bs.map Value.ref
  | [], _, h => by cases h; rfl
  | b :: bs, _, h => by
    cases h with
    | cons r t =>
      rename_i y ys
      cases (show y = Value.ref b from r)
      rw [List.map_cons, vals_refs t]
/-- x not in l: dicts of flat things, none of them x itself -/
def rNotInDF (K : PySem.W.Frag) : R2 := fun x y H Q => ∃ (a l : Addr) (ks : List (Key × V)) (bs : List Addr) (e : Addr → Bool), x = .ref a ∧ y = .ref l ∧ H a = some (.dK ks) ∧ (∀ k u, valV ks k = some u → flatV u = true) ∧ SqL K H l (bs.map V.ref) ∧
  (∀ b ∈ bs, b ≠ a ∧ ∃ ls, H b = some (.dK ls) ∧ (∀ p ∈ ls, flatV p.2 = true) ∧ e b = (ls.length == ks.length && eqKv ls ks)) ∧ Q (.bl (!bs.any e)) H
theorem op_notInDF {X : Cx} (hu : X.A.units + 64 < cLine) : OpR X (compareOp .NotIn) (rNotInDF X.K) := by
  rintro pins s σ H x y v u Q I rx ry ⟨a, l, ks, bs, e, rfl, rfl, ha, fa, hl, hb, q⟩
  cases (show v = Value.ref a from rx)
  cases (show u = Value.ref l from ry)
  obtain ⟨_, ya, va, ra, da⟩ := (show ObjOk X.prog X.w H s.heap a (.dK ks) from I.hok a _ ha)
  obtain ⟨its, rv, ⟨⟨cls, dd, data, sls⟩, n, ho, hc, hdn, hdt⟩, hlen⟩ := I.list hl
  simp only at hc hdt
  subst hc hdt
  have la : ks.length = va.length := by unfold KV at ra; exact ra.length
  obtain rfl := vals_refs rv
  refine notInD (fun z => match z with | .ref b => e b | _ => false) ⟨_, ho, rfl, n, rfl⟩ (fun z hz => ?_) ?_
  · have hz : z ∈ bs.map Value.ref := by simpa using hz
    obtain ⟨b, hm, rfl⟩ := List.mem_map.mp hz
    obtain ⟨ne, ls, hbl, fl, he⟩ := hb b hm
    obtain ⟨_, yb, vb, rb, db⟩ := (show ObjOk X.prog X.w H s.heap b (.dK ls) from I.hok b _ hbl)
    have lb : ls.length = vb.length := by unfold KV at rb; exact rb.length
    refine PySem.SeqAt.EqIn.of_refs ne fun E Q h => ?_
    show wpAny (model X.prog X.w) X.A.in1 (compareOp .Eq (.ref b) (.ref a)) Q E s
    have hu2 : X.A.in1.units < cLine := (show X.A.units + 1 < cLine by omega)
    refine PySem.W.keq_eq (knd := mixKind X.prog X.w) (r := eqKv ls ks) yb ya db da hu2 (fun _ => hits_flatA ra fa rb fl) ?_
    rw [← la, ← lb, ← he]
    exact h
  · have e2 : ((bs.map Value.ref).toArray.any fun z => match z with | .ref b => e b | _ => false) = bs.any e := by
      rw [← Array.any_toList]
      simp only [List.any_map]
      rfl
    rw [e2]
    exact ⟨.bl _, H, I, rfl, q⟩
end Own
set_option Elab.async false
set_option linter.all false
set_option maxRecDepth 100000
set_option maxHeartbeats 2000000
/-! a dict behind a star: its keys -/
namespace Own
open PySem PySem.Spec PyProof.Rows L2
section
variable {X : Cx} {pins : List (Addr × Obj)} {σ : L2.St} {H : Hp} {s : Shared}
theorem star_dict {a : Addr} {kvs : List (Key × V)} {E : Value → Shared → Prop} {Q : List Value → Shared → Prop} (I : L2.Inv X pins σ H s) (hcalm : X.calm = true) (hd : Rd H a (.dK kvs)) (hQ : ∀ us s', L2.Inv X pins σ H s' → Vals (kvs.map fun kv => kV kv.1) us → Q us s') : PySem.W.StarOf (model X.prog X.w) X.A E (.ref a) Q s := by
  obtain ⟨z, lo, vs, rel, dd⟩ := dk_rd I.hok hd
  obtain ⟨ep, hat⟩ := dd.dictAt
  have ek : (kvs.map fun kv => kV kv.1) = vs.map fun p => kV p.1 := by
    have e := congrArg (List.map kV) rel.keys
    rw [List.map_map, List.map_map] at e
    exact e
  unfold PySem.W.StarOf notIterableAtAll
  refine wpAny_bind (wpAny_specialOf hat.dictOf.typeIs PySem.F.slot_dict_iter.lookup (wpAny_pure ⟨rfl, ?_⟩))
  refine PySem.W.kdu_collect (PySem.W.kdl_dict (knd := mixKind X.prog X.w) (kvs := vs) (ep := ep) lo) (I.ok.hd hcalm) hat (by rw [← rel.length]; exact z) fun h' tk acc hk hacc => ?_
  refine hQ _ _ (I.kept (t' := tk) hk) ?_
  rw [ek]
  exact keys_at (by rw [Array.length_toList]; exact hacc.1) fun j v e => hacc.2 j v (by rw [← Array.getElem?_toList]; exact e)
end
section
variable {X : Cx} {e : Expr} {es : List Expr} {te : TE} {t : TA} {p : Pos}
def tStarD (te : TE) (t : TA) : TA := fun σ H Q => te σ H fun x H1 => ∃ a kvs, x = V.ref a ∧ Rd H1 a (.dK kvs) ∧ t σ H1 fun ys H2 => Q ((kvs.map fun kv => kV kv.1) ++ ys) H2
theorem pa_starD (hcalm : X.calm = true) (he : PE X e te) (hr : PA X es t) (hs : starEach (.Starred e p :: es) X.env = (true, eval e X.env) :: starEach es X.env := by rfl) : PA X (.Starred e p :: es) (tStarD te t) := by
  refine ⟨fun pos pins s σ H Q I h => ?_⟩
  refine PySem.W.items_star (thn (he.run pins s σ H _ I h) fun v s1 ⟨y, H1, I1, ry, a, kvs, ey, hx, q⟩ => ?_) hs
  subst ey
  obtain rfl : v = Value.ref a := ry
  refine star_dict I1 hcalm hx fun us s2 I2 rv => ?_
  exact thn (hr.run pos pins s2 σ H1 _ I2 q) fun ws s3 ⟨vs, H3, I3, r3, q3⟩ => ⟨_ ++ vs, H3, I3, rv.append r3, q3⟩
end
end Own
set_option Elab.async false
set_option linter.all false
set_option maxRecDepth 100000
/-! a list of anything != [] -/
namespace Own
open PySem PySem.Spec PyProof.Rows L2
def rNeNil (K : PySem.W.Frag) : R2 := fun x y H Q => ∃ a b xs, x = .ref a ∧ y = .ref b ∧ SqL K H a xs ∧ SqL K H b [] ∧ Q (.bl (!xs.isEmpty)) H
theorem op_neNil {X : Cx} (hu : X.A.units + 64 < cLine) : OpR X (compareOp .NotEq) (rNeNil X.K) := by
  rintro pins s σ H x y v u Q I rx ry ⟨a, b, xs, rfl, rfl, ha, hb, q⟩
  cases (show v = Value.ref a from rx)
  cases (show u = Value.ref b from ry)
  obtain ⟨us, r1, p1, _⟩ := I.list ha
  obtain ⟨ws, r2, p2, _⟩ := I.list hb
  cases r2
  cases r1 with
  | nil => exact SeqAt.RcNeAt.lists (e := fun _ => true) p1.isList p2.isList rfl (by omega) (fun j h _ => absurd h (Nat.not_lt_zero _)) _ _ _ _ ⟨.bl _, H, I, rfl, q⟩
  | cons h t => exact SeqAt.RcNeAt.lists_lengths p1.isList p2.isList (by simp) (by omega) _ _ _ _ ⟨.bl _, H, I, rfl, q⟩
def rEqNil (K : PySem.W.Frag) : R2 := fun x y H Q => ∃ a b xs, x = .ref a ∧ y = .ref b ∧ SqL K H a xs ∧ SqL K H b [] ∧ Q (.bl xs.isEmpty) H
theorem op_eqNil {X : Cx} (hu : X.A.units + 64 < cLine) : OpR X (compareOp .Eq) (rEqNil X.K) := by
  rintro pins s σ H x y v u Q I rx ry ⟨a, b, xs, rfl, rfl, ha, hb, q⟩
  cases (show v = Value.ref a from rx)
  cases (show u = Value.ref b from ry)
  obtain ⟨us, r1, p1, _⟩ := I.list ha
  obtain ⟨ws, r2, p2, _⟩ := I.list hb
  cases r2
  cases r1 with
  | nil => exact SeqAt.RcAt.lists (e := fun _ => true) p1.isList p2.isList rfl (by omega) (fun j h _ => absurd h (Nat.not_lt_zero _)) _ _ _ _ ⟨.bl _, H, I, rfl, q⟩
  | cons h t => exact SeqAt.RcAt.lists_lengths p1.isList p2.isList (by simp) (by omega) _ _ _ _ ⟨.bl _, H, I, rfl, q⟩
/-! x not in d.values() -/
def rNotInVals (K : PySem.W.Frag) : R2 := fun x y H Q => ∃ v d kvs, y = .ref v ∧ H v = some (VvO d v) ∧ Rd H d (.dK kvs) ∧ flatV x = true ∧ (kvs.map (·.2)).all flatV = true ∧ Q (.bl (!inV x (kvs.map (·.2)))) H
theorem op_notInVals {X : Cx} (hc : X.calm = true) : OpR X (compareOp .NotIn) (rNotInVals X.K) := by
  intro pins s σ H x y v u Q I rx ry ⟨va, d, kvs, ey, hv, hd, fx, fs, q⟩
  subst ey
  cases (show u = Value.ref va from ry)
  have view : s.heap.IsValuesView va d := (show ObjOk X.prog X.w H s.heap va (VvO d va) from I.hok va _ hv).1
  obtain ⟨hz, hsys, vs, rel, dof⟩ := dk_rd I.hok hd
  obtain ⟨ep, dat⟩ := dof.dictAt
  have hT := view.typeIs
  have hlv : kvs.length = vs.length := by unfold KV at rel; exact rel.length
  have hvals : Vals (kvs.map (·.2)) (vs.map (·.2)) := paired_ix (by rw [List.length_map, List.length_map]; exact hlv) fun i z e => by
    rw [List.getElem?_map] at e
    cases e2 : vs[i]? with
    | none => rw [e2] at e; cases e
    | some p =>
      rw [e2] at e
      obtain ⟨y, h1, h2⟩ := KV.at' rel (i := i) (k := p.1) (v := p.2) e2
      obtain rfl : p.2 = z := Option.some.inj e
      exact ⟨y, by rw [List.getElem?_map, h1]; rfl, h2⟩
  show wpAny (model X.prog X.w) X.A ((contains (.ref va) v) >>= fun b => pure (Value.bool !b)) (EP X pins σ Q) X.xe s
  refine wpAny_bind ?_
  unfold contains
  refine wpAny_holding ?_
  have e0 : stdlibNamesSay? (.ref va) v = none := by
    first | rfl | (cases v <;> rfl)
  simp only [e0]
  refine wpAny_bind (wpAny_specialOf hT vals_noc ?_)
  refine wpAny_ite_split (fun hab => absurd hab (by decide)) (fun _ => ?_)
  unfold callSpecialUnlessNone?
  refine wpAny_bind (wpAny_bind (wpAny_specialOf hT vals_noc ?_))
  refine wpAny_pure ?_
  refine wpAny_bind (wpAny_rule ?_)
  refine wpAny_bind (wpAny_tryCatch (wpAny_pyIter_values (knd := mixKind X.prog X.w) view dat ?_))
  have kp : ∀ b o, s.heap.get? b = some o → (s.heap.push { cls := .type "dict_valueiterator", data := .fields #[.ref d, .int 0 0, .int vs.length 0, .int ep 0] }).get? b = some o := fun b o e => Heap.get?_push_of_some _ e
  have hit : (s.heap.push { cls := .type "dict_valueiterator", data := .fields #[.ref d, .int 0 0, .int vs.length 0, .int ep 0] }).IsValIter s.heap.objs.size d 0 vs.length ep := ⟨_, Heap.get?_push_size _ rfl, rfl, rfl⟩
  have ne : d ≠ s.heap.objs.size := Nat.ne_of_lt dat.lt_size
  have W := Walks.dictValues (prog := X.prog) (w := X.w) (A := X.A.in1.in1) (knd := mixKind X.prog X.w) (I.ok.hd hc) s.heap.objs.size d ne vs ep
  have ln : (vs.map (·.2)).length = vs.length := List.length_map ..
  have W2 : Walks X.prog X.w X.A.in1 s.heap.objs.size [s.heap.objs.size, d] [s.heap.objs.size] (vs.map (·.2)).length (fun i v => (vs.map (·.2))[i]? = some v) (fun i h => h.IsValIter s.heap.objs.size d i vs.length ep ∧ h.DictAt (mixKind X.prog X.w) d vs ep) :=
    ⟨W.of_in1.sub, W.of_in1.frame, fun i s Q E hi st hQ => W.of_in1.item i s Q E (by rw [ln] at hi; exact hi) st fun z h' tk hP => hQ z h' tk (by
      obtain ⟨k, e⟩ := hP
      rw [List.getElem?_map, e]
      rfl), fun s Q E st hQ => W.of_in1.done s Q E (by rw [ln] at st; exact st) hQ, W.of_in1.self⟩
  refine wpAny_bind (wpAny_runValue (citer_loop W2 v (eqU x) (fun z hz s' => mem_eqAt rx ‹_› hvals fs z hz) _ 0 { s with heap := _ } rfl (Nat.zero_le _) ⟨hit, dat.push _⟩ fun h' tk hm => ?_))
  have kp2 : ∀ b o, s.heap.get? b = some o → h'.get? b = some o := fun b o e => hm b o (fun z => by
    rw [List.mem_singleton.mp z] at e
    exact Nat.lt_irrefl _ (Heap.lt_size e)) (kp b o e)
  have fin : wpAny (model X.prog X.w) X.A (pure (Value.bool (!inV x (kvs.map (·.2))))) (EP X pins σ Q) X.xe { s with heap := h', toks := tk } := wpAny_pure ⟨.bl _, H, I.kept (t' := tk) kp2, rfl, q⟩
  rw [List.drop_zero, any_eqU hvals fs]
  exact wpAny_pure fin
end Own
set_option Elab.async false
set_option linter.all false
set_option maxRecDepth 100000
/-! how often a text stands in a list of texts -/
namespace Own
open PySem PySem.Spec PyProof.Rows L2
theorem countU_strs {k : Str} : ∀ {zs : List Str} {us : List Value}, Vals (zs.map V.str) us → us.countP (eqU (.str k)) = zs.count k
  | [], _, .nil => rfl
  | z :: zs, u :: us, .cons r t => by
    have ih := countU_strs (k := k) t
    rw [List.countP_cons, List.count_cons, ih, eqU_of r rfl]
    rfl
def rCntS (K : PySem.W.Frag) : V → List V → Hp → VK → Prop := fun x xs H Q => ∃ (a : Addr) (zs : List Str) (k : Str), x = .ref a ∧ xs = [.str k] ∧ SqL K H a (zs.map V.str) ∧ Q (.int (zs.count k : Nat)) H
theorem mt_scount {X : Cx} : MtR X "list.count" (rCntS X.K) := by
  rintro pins s σ H x xs v us Q I rx rxs ⟨a, zs, k, rfl, rfl, ha, q⟩
  cases rx
  obtain ⟨u, rfl, ru⟩ := rxs.one
  obtain ⟨its, rv, ⟨⟨cls, dd, data, sl⟩, n, ho, hc, hdn, hd⟩, hlen⟩ := I.list ha
  simp only at hc hd
  subst hc hd
  have fl : (zs.map V.str).all flatV = true := List.all_eq_true.mpr fun z m => by
    obtain ⟨y, _, rfl⟩ := List.mem_map.mp m
    rfl
  refine call_meets PySem.F.slot_list_count ⟨_, ho, rfl⟩ PySem.F.entry_list_count (PySem.F.args_list_count_2 _ _)
    (SeqAt.list_countAt a its.toArray n dd sl u (eqU (.str k))) ⟨ho, fun y hy => mem_eqAt ru rfl rv fl y (by simpa using hy), ?_⟩
  have ec : its.toArray.toList.countP (eqU (.str k)) = zs.count k := countU_strs rv
  refine ⟨.int (zs.count k : Nat), H, I.tok _, ⟨s.toks, ?_⟩, q⟩
  rw [ec]
theorem scntOf {X : Cx} {K : PySem.W.Frag} (h : X.K = K) : MtR X "list.count" (rCntS K) := h ▸ mt_scount
theorem ixDOf {X : Cx} {K : PySem.W.Frag} (h : X.K = K) (hu : X.A.units + 65 < cLine) : MtR X "list.index" (rIndexD K) := h ▸ mt_indexD hu
theorem inDOf {X : Cx} {K : PySem.W.Frag} (h : X.K = K) (hu : X.A.units + 65 < cLine) : OpR X (compareOp .In) (rInD K) := h ▸ op_inD hu
theorem bmOf {X : Cx} {K : PySem.W.Frag} (h : X.K = K) {T id : String} {name : Str} {o e : Expr} {es : List Expr} {to : TE} {t : TA} {r : V → List V → Hp → VK → Prop} {apos cpos : Pos} (pa : PlainAttrs T) (slot : Slot T name id) (hty : typeOf (.builtin id) = pure (.type "method_descriptor")) (hm : MtR X id r) (ho : PE X o to) (ha : PA X (e :: es) t)
    (hbase : attributeBase o name X.env (eval o X.env) = eval o X.env := by rfl)
    (hfew : ((backTo cpos (starEach (e :: es) X.env)).all (fun x => !x.1) && (backToKw cpos (keywordEach [] X.env)).all (fun x => x.1.isSome)
      && decide ((e :: es).length + ([] : List Keyword).length + (if ([] : List Keyword).isEmpty then 0 else 1) < 30)) = true := by rfl)
    (hline : (apos.endLine == cpos.line) = true := by rfl) (hs : starEach (e :: es) X.env = (false, eval e X.env) :: starEach es X.env := by rfl) (hplain : (backTo cpos (starEach es X.env)).any (·.1) = false := by rfl) :
    PE X (.Call (.Attribute o name apos) (e :: es) [] cpos) (tBM K T r to t) := h ▸ pe_bm pa slot hty hm ho ha hbase hfew hline hs hplain
end Own
set_option Elab.async false
set_option linter.all false
set_option maxRecDepth 100000
/-! a != b of two dicts of the same keys, whose values are equal data -/
namespace Own
open PySem PySem.Spec PyProof.Rows L2
theorem hits_dd {X : Cx} {pins : List (Addr × Obj)} {σ : L2.St} {H : Hp} {s : Shared} (I : L2.Inv X pins σ H s) (hu : X.A.units + 65 < cLine) {ls : List (Key × V)} {vb : List (Key × Value)} (rb : KV ls vb) {ks : List (Key × V)} {va : List (Key × Value)}
    (ra : KV ks va) : (∀ p ∈ ks, ∃ u d d', valV ls p.1 = some u ∧ Dp X.K H p.2 d ∧ Dp X.K H u d' ∧ SeqAt.shaped d = true ∧ SeqAt.shaped d' = true ∧ PyData.eqv d d' = true) → PySem.W.KeqHits X.A.in1 s vb va true := by
  unfold KV at ra
  induction ra with
  | nil => intro _; exact .nil
  | @cons p q ps qs h t k =>
    intro hp
    obtain ⟨h1, h2⟩ := h
    obtain ⟨u, d, d', e, dp, du, sd, su, ee⟩ := hp p List.mem_cons_self
    have rr : RelO (some u) (valueAt vb p.1) := by rw [← e]; exact rb.val p.1
    obtain ⟨y, hy, ry⟩ := rr.some_of
    obtain ⟨key, v⟩ := q
    have h1' : p.1 = key := h1
    rw [h1'] at hy
    obtain ⟨as, r1⟩ := Dp.reads I d p.2 v dp h2
    obtain ⟨bs, r2⟩ := Dp.reads I d' u y du ry
    have hr := room_in_shaped (A := X.A) (xs := [d]) su hu
    have he : SeqAt.EqAt X.A.in1 s v y (PyData.eqv d d') := SeqAt.eqAt_reads d d' X.A.in1 s v y as bs r1 r2 (SeqAt.canLay_of_shaped sd) (SeqAt.canLay_of_shaped su) (by
      have h2 := Nat.le_max_left d.depth (PyData.depthAll [])
      have h3 : PyData.depthAll [d] = max d.depth (PyData.depthAll []) := rfl
      show X.A.units + 1 + min d.depth d'.depth < cLine
      omega)
    rw [ee] at he
    show PySem.W.KeqHits X.A.in1 s vb ((key, v) :: qs) (true && true)
    exact .hit hy he (k fun p' hm => hp p' (List.mem_cons_of_mem _ hm))
def rNeDD (K : PySem.W.Frag) : R2 := fun x y H Q => ∃ a b ks ls, x = .ref a ∧ y = .ref b ∧ H a = some (.dK ks) ∧ H b = some (.dK ls) ∧ ks.length = ls.length ∧
  (∀ p ∈ ks, ∃ u d d', valV ls p.1 = some u ∧ Dp K H p.2 d ∧ Dp K H u d' ∧ SeqAt.shaped d = true ∧ SeqAt.shaped d' = true ∧ PyData.eqv d d' = true) ∧ Q (.bl false) H
theorem op_neDD {X : Cx} (hu : X.A.units + 65 < cLine) : OpR X (compareOp .NotEq) (rNeDD X.K) := by
  rintro pins s σ H x y v u Q I rx ry ⟨a, b, ks, ls, rfl, rfl, ha, hb, hl, hp, q⟩
  cases (show v = Value.ref a from rx)
  cases (show u = Value.ref b from ry)
  obtain ⟨_, ya, va, ra, da⟩ := (show ObjOk X.prog X.w H s.heap a (.dK ks) from I.hok a _ ha)
  obtain ⟨_, yb, vb, rb, db⟩ := (show ObjOk X.prog X.w H s.heap b (.dK ls) from I.hok b _ hb)
  have la : ks.length = va.length := by unfold KV at ra; exact ra.length
  have lb : ls.length = vb.length := by unfold KV at rb; exact rb.length
  refine PySem.W.keq_ne (knd := mixKind X.prog X.w) (r := true) ya yb da db (by omega) (fun _ => hits_dd I hu rb ra hp) ?_
  rw [show va.length = vb.length by omega, show (!(vb.length == vb.length && true)) = false by simp]
  exact ⟨.bl _, H, I, rfl, q⟩
end Own
set_option Elab.async false
set_option linter.all false
set_option maxRecDepth 100000
set_option maxHeartbeats 2000000
/-! an instance with an own __iter__ behind a star: the keys of the dict that it walks -/
namespace Own
open PySem PySem.Spec PyProof.Rows L2
section
variable {X : Cx} {CX : CXT} {C f g : Addr} {fd gd : FuncData} {ps qs : List Str} {n m : Nat} {sp : Nat → Sp} {sl : Sp} {E : XK}
theorem key_loopR {pins : List (Addr × Obj)} {σ : L2.St} {A : Around} {Rs : Result → Shared → Prop} {S d it : Addr} {od : Obj} {kvs : List (Key × V)} {ep : Nat} {es : Array DictEntry} {rt : Value} (hh : A.handled = none) (hod : od.data = .dict es ep) (hz : kvs.length ≤ sizeLine) (hS : S ≠ it) (hSd : S ≠ d)
    : ∀ (k i : Nat) (H : Hp) (s : Shared), kvs.length - i = k → i ≤ kvs.length → L2.Inv X pins σ H s → FpOk X pins H it → H d = some (.frz od (.dK kvs)) → H S = some (.lst ((kvs.take i).map fun p => kV p.1)) → s.heap.IsKeyIter it d i kvs.length ep →
      (∀ s', L2.Inv X pins σ (upd H S (.lst (kvs.map fun p => kV p.1))) s' → Rs (.ok (.ret rt)) s') →
      codeAny (model X.prog X.w) A (.builtin "list.extend.loop" ⟨[.ref S, .ref it, rt], []⟩) Rs s := by
  intro k
  induction k with
  | zero =>
    intro i H s hk hi I fp hd hl st hR
    have e : i = kvs.length := by omega
    subst e
    obtain ⟨f0, f1, f2, f3, f4, f5⟩ := fp
    obtain ⟨_, hgd, _, es2, ep2, vs, hdt, hsz, kv, hm⟩ := I.frzK hd
    obtain ⟨e1, e2⟩ := dict_ep hod hdt
    subst e1
    subst e2
    refine codeAny_builtin PySem.F.entry_extend_loop ?_
    rw [Around.under_plainId PySem.F.plain_extend_loop _]
    show wpAny _ A.in1 (pyNext (.ref it) >>= _) _ _ s
    refine wpAny_bind (next_key_end hh st hgd hdt hsz (Nat.le_refl _) fun h' eb => ?_)
    have I1 := I.turned (t' := s.toks) (fun b o hb e => eb b o hb e) f0 f1 f3 f4 f5
    rw [List.take_length] at hl
    refine wpAny_pure (hR _ ?_)
    rw [show upd H S (.lst (kvs.map fun p => kV p.1)) = H from by
      funext b
      by_cases hb : b = S
      · rw [hb, upd_same, hl]
      · rw [upd_ne hb]]
    exact I1
  | succ k ih =>
    intro i H s hk hi I fp hd hl st hR
    have hlt : i < kvs.length := by omega
    obtain ⟨f0, f1, f2, f3, f4, f5⟩ := fp
    obtain ⟨_, hgd, _, es2, ep2, vs, hdt, hsz, kv, hm⟩ := I.frzK hd
    obtain ⟨e1, e2⟩ := dict_ep hod hdt
    subst e1
    subst e2
    have hlv : kvs.length = vs.length := Paired.length kv
    obtain ⟨u, hu, ru⟩ := kv_get kv (show kvs[i]? = some (kvs[i].1, kvs[i].2) from List.getElem?_eq_getElem hlt)
    refine codeAny_builtin PySem.F.entry_extend_loop ?_
    rw [Around.under_plainId PySem.F.plain_extend_loop _]
    show wpAny _ A.in1 (pyNext (.ref it) >>= _) _ _ s
    rw [hlv] at st
    refine wpAny_bind (wpAny_pyNext_dict_item st hm hu fun key h' hkey st' sb => ?_)
    have I1 : L2.Inv X pins σ H { s with heap := h' } := I.turned (t' := s.toks) (fun b ob hb e => (sb.2 b hb).trans e) f0 f1 f3 f4 f5
    obtain ⟨z, its, cc, r2, hln, e⟩ := I1.lstM hl
    have lt2 : its.length = i := by rw [← hln, List.length_map, List.length_take]; omega
    show wpAny _ A.in1 (updateSeq S (·.push key) >>= _) _ _ _
    have et : (kvs.take (i + 1)).map (fun p => kV p.1) = (kvs.take i).map (fun p => kV p.1) ++ [kV kvs[i].1] := by rw [List.take_succ, List.getElem?_eq_getElem hlt, List.map_append]; rfl
    refine wpAny_bind (wpAny_updateSeq e rfl (wpAny_pure ⟨plainId_quiet PySem.F.plain_extend_loop _, ?_⟩) (by rw [List.size_toArray]; omega) (by show (its.toArray.push key).size ≤ sizeLine + 1; rw [Array.size_push, List.size_toArray]; omega))
    have I3 := I1.lset (f := (·.push key)) (its' := its ++ [key]) (t' := s.toks) hl e (by simp) (r2.append (.cons (relV_key (show keyIs kvs[i].1 key = true from hkey)) .nil)) (by rw [List.length_append, List.length_singleton, List.length_map, List.length_take]; omega)
    rw [← et] at I3
    have hit2 : (upd H S (.lst ((kvs.take (i + 1)).map fun p => kV p.1))) it = none := by rw [upd_ne hS.symm]; exact f0
    refine ih (i + 1) _ _ (by omega) hlt I3 ⟨hit2, f1, f2, f3, f4, f5⟩ (by rw [upd_ne hSd.symm]; exact hd) upd_same ?_ (fun s' J => hR s' (by rw [upd_upd] at J; exact J))
    show (h'.update S _).IsKeyIter it d (i + 1) kvs.length _
    rw [hlv]
    exact st'.at fun o e => (Heap.get?_update_other _ _ hS).trans e
theorem list_fillR {pins : List (Addr × Obj)} {σ : L2.St} {A : Around} {Rs : Result → Shared → Prop} {S a dx : Addr} {fs : List (Str × V)} {H : Hp} {s : Shared} {Q : VK} {rt : Value}
    (F : ∀ base, FnOk X.prog X.w X.K X.mg base CX n f fd ps (sp base.objs.size)) (hb : L2.Binds X.K fd ps []) (hx : Passes CX X E) (hr : Room n A.in1) (hfr : A.in1.frames = X.A.frames) (hh : A.handled = none)
    (hs : PySem.W.findIn X.K (.ref C) "__iter__" = some (some (.ref f))) (hf : PySem.W.isFn X.K (.ref f) = true) (n1 : PySem.W.findIn X.K (.ref C) "__len__" = some none) (n2 : PySem.W.findIn X.K (.ref C) "__length_hint__" = some none)
    (I : L2.Inv X pins σ H s) (ha : H a = some (.ins C dx fs)) (hS : H S = some (.lst [])) (hsp : ∀ m, sp m [.ref a] H (ListTold C a S Q m) E)
    (done : ∀ H' s', L2.Inv X pins σ H' s' → Q (.ref S) H' → Rs (.ok (.ret rt)) s') (bad : ∀ e s', X.xe e s' → Rs (.error e) s') :
    wpAny (model X.prog X.w) A.in1 (Builtin.List.listExtendWith (.ref S) (.ref a) rt)
      (fun fin s' => match fin with | .done g => Rs (.ok g) s' | .again c' => c'.quiet = true ∧ codeAny (model X.prog X.w) A c' Rs s') (fun e s' => Rs (.error e) s') s := by
  have neS : S ≠ a := ne_of hS ha (fun z => nomatch z)
  obtain ⟨mA, J, _⟩ := ins_get I.hok ha
  obtain ⟨od0, J, _⟩ := J.look
  have t1 : Builtin.List.listSameRef (.ref S) (.ref a) = false := by simp [Builtin.List.listSameRef, neS]
  have t2 : (Value.ref C == Value.type "list" || Value.ref C == Value.type "tuple") = false := rfl
  unfold Builtin.List.listExtendWith
  refine wpAny_bind (J.type.here ?_)
  rw [t1, Bool.false_or]
  simp only [t2, Bool.false_eq_true, if_false]
  refine wpAny_bind (wpAny_mono (own_it F hb hx hr hfr hs hf (fun m v H2 ⟨it, d, od, kvs, e1, e2, _⟩ => ⟨it, d, od, e1, e2⟩) I ha hsp) (fun u s2 h2 => ?_) bad)
  obtain ⟨it0, H2, eu, I2, it, d, od, kvs, e0, hi, hd, hS2, hz, ⟨dx2, fs2, ha2⟩, hQ⟩ := h2
  subst eu
  have e9 : it = it0 := by cases e0; rfl
  subst e9
  obtain ⟨mB, J2, _⟩ := ins_get I2.hok ha2
  obtain ⟨od2, J2, _⟩ := J2.look
  refine wpAny_bind (wpAny_holding (hint_no n1 n2 I2.kIn J2 ?_))
  obtain ⟨es, ep, hod, hk⟩ := (show ObjOk X.prog X.w H2 s2.heap it (KiO d od it) from I2.hok it _ hi).1
  obtain ⟨_, _, _, es2, ep2, vs, hdt, hsz, kv, hm⟩ := I2.frzK hd
  obtain ⟨e1, e2⟩ := dict_ep hod hdt
  subst e1
  have nSi : S ≠ it := fun e => by rw [e, hi] at hS2; cases hS2
  have nSd : S ≠ d := fun e => by rw [e, hd] at hS2; cases hS2
  have ndi : d ≠ it := fun e => by rw [e, hi] at hd; cases hd
  have hzk : kvs.length ≤ sizeLine := (dk_rd I2.hok (.inr ⟨od, hd⟩)).1
  have I3 := ItX.inv_drop I2 hi
  have fp := ItX.inv_fp I2 hi (Nat.le_trans I.sz hz)
  have hS3 : ItX.dropH H2 it S = some (.lst []) := (ItX.dropH_ne nSi).trans hS2
  have hd3 : ItX.dropH H2 it d = some (.frz od (.dK kvs)) := (ItX.dropH_ne ndi).trans hd
  generalize ItX.dropH H2 it = H3 at I3 fp hS3 hd3 hQ
  have go : ∀ (s' : Shared), L2.Inv X pins σ H3 s' → s'.heap.IsKeyIter it d 0 kvs.length ep → codeAny (model X.prog X.w) A (.builtin "list.extend.loop" ⟨[.ref S, .ref it, rt], []⟩) Rs s' := fun s' I' st' =>
    key_loopR hh hod hzk nSi nSd _ 0 H3 s' rfl (Nat.zero_le _) I' fp hd3 hS3 st' fun s'' I'' => done _ s'' I'' hQ
  rw [hsz] at hk
  obtain ⟨zz, its, cc, r3, ln3, e3⟩ := I3.lstM hS3
  cases r3
  refine wpAny_ite_split (fun _ => ?_) (fun _ => wpAny_pure ⟨plainId_quiet PySem.F.plain_extend_loop _, go s2 I3 hk⟩)
  refine wpAny_bind (wpAny_rule (wpAny_bind ?_))
  show wpAny _ _ (updateSeq S (·.push .none) >>= fun _ => updateSeq S (·.pop)) _ _ _
  refine wpAny_bind (wpAny_updateSeq e3 rfl ?_)
  have J1 := I3.lset (f := (·.push Value.none)) (its' := [Value.none]) (ys := [V.non]) (t' := s2.toks) hS3 e3 (by simp) (.cons rfl .nil) (by rw [List.length_singleton, sizeLine_eq]; decide)
  obtain ⟨z4, its4, c4, r4, ln4, e4⟩ := J1.lstM upd_same
  obtain ⟨u4, rfl, ru4⟩ := r4.one
  refine wpAny_updateSeq e4 rfl (wpAny_pure ⟨plainId_quiet PySem.F.plain_extend_loop _, go _ ?_ ?_⟩) (by show 1 ≤ sizeLine; rw [sizeLine_eq]; decide) (by show 0 ≤ sizeLine + 1; exact Nat.zero_le _)
  · have J2 := J1.lset (f := (·.pop)) (its := [u4]) (its' := []) (ys := []) (t' := s2.toks) upd_same e4 (by rfl) .nil (Nat.zero_le _)
    rw [upd_upd, show upd H3 S (.lst []) = H3 from by
      funext b
      by_cases hb : b = S
      · rw [hb, upd_same, hS3]
      · rw [upd_ne hb]] at J2
    exact J2
  · exact hk.at fun o e => (Heap.get?_update_other _ _ nSi).trans ((Heap.get?_update_other _ _ nSi).trans e)
theorem list_fillLR {pins : List (Addr × Obj)} {σ : L2.St} {A : Around} {Rs : Result → Shared → Prop} {S a dx : Addr} {fs : List (Str × V)} {H : Hp} {s : Shared} {Q : VK} {rt : Value}
    (F : ∀ base, FnOk X.prog X.w X.K X.mg base CX n f fd ps (sp base.objs.size)) (hb : L2.Binds X.K fd ps []) (hx : Passes CX X E) (hr : Room n A.in1) (hrm : Room (m + 1) A.in1) (hfr : A.in1.frames = X.A.frames) (hh : A.handled = none)
    (hs : PySem.W.findIn X.K (.ref C) "__iter__" = some (some (.ref f))) (hf : PySem.W.isFn X.K (.ref f) = true) (G : FnOk X.prog X.w X.K X.mg X.base CX0 m g gd qs sl) (hgb : L2.Binds X.K gd qs []) (n1 : PySem.W.findIn X.K (.ref C) "__len__" = some (some (.ref g))) (n2 : PySem.W.isFn X.K (.ref g) = true)
    (I : L2.Inv X pins σ H s) (ha : H a = some (.ins C dx fs)) (hS : H S = some (.lst [])) (hsp : ∀ m, sp m [.ref a] H (ListToldL C a S sl E Q m) E)
    (done : ∀ H' s', L2.Inv X pins σ H' s' → Q (.ref S) H' → Rs (.ok (.ret rt)) s') (bad : ∀ e s', X.xe e s' → Rs (.error e) s') :
    wpAny (model X.prog X.w) A.in1 (Builtin.List.listExtendWith (.ref S) (.ref a) rt)
      (fun fin s' => match fin with | .done g => Rs (.ok g) s' | .again c' => c'.quiet = true ∧ codeAny (model X.prog X.w) A c' Rs s') (fun e s' => Rs (.error e) s') s := by
  have neS : S ≠ a := ne_of hS ha (fun z => nomatch z)
  obtain ⟨mA, J, _⟩ := ins_get I.hok ha
  obtain ⟨od0, J, _⟩ := J.look
  have t1 : Builtin.List.listSameRef (.ref S) (.ref a) = false := by simp [Builtin.List.listSameRef, neS]
  have t2 : (Value.ref C == Value.type "list" || Value.ref C == Value.type "tuple") = false := rfl
  unfold Builtin.List.listExtendWith
  refine wpAny_bind (J.type.here ?_)
  rw [t1, Bool.false_or]
  simp only [t2, Bool.false_eq_true, if_false]
  refine wpAny_bind (wpAny_mono (own_it F hb hx hr hfr hs hf (fun m v H2 ⟨it, d, od, kvs, e1, e2, _⟩ => ⟨it, d, od, e1, e2⟩) I ha hsp) (fun u s2 h2 => ?_) bad)
  obtain ⟨it0, H2, eu, I2, it, d, od, kvs, e0, hi, hd, hS2, hz, ⟨dx2, fs2, ha2⟩, hL, hQ⟩ := h2
  subst eu
  have e9 : it = it0 := by cases e0; rfl
  subst e9
  obtain ⟨mB, J2, _⟩ := ins_get I2.hok ha2
  obtain ⟨od2, J2, _⟩ := J2.look
  refine wpAny_bind (wpAny_holding (hint_own G hgb hrm hfr n1 n2 I2 ha2 hL fun b9 s2 I2 => ?_))
  obtain ⟨es, ep, hod, hk⟩ := (show ObjOk X.prog X.w H2 s2.heap it (KiO d od it) from I2.hok it _ hi).1
  obtain ⟨_, _, _, es2, ep2, vs, hdt, hsz, kv, hm⟩ := I2.frzK hd
  obtain ⟨e1, e2⟩ := dict_ep hod hdt
  subst e1
  have nSi : S ≠ it := fun e => by rw [e, hi] at hS2; cases hS2
  have nSd : S ≠ d := fun e => by rw [e, hd] at hS2; cases hS2
  have ndi : d ≠ it := fun e => by rw [e, hi] at hd; cases hd
  have hzk : kvs.length ≤ sizeLine := (dk_rd I2.hok (.inr ⟨od, hd⟩)).1
  have I3 := ItX.inv_drop I2 hi
  have fp := ItX.inv_fp I2 hi (Nat.le_trans I.sz hz)
  have hS3 : ItX.dropH H2 it S = some (.lst []) := (ItX.dropH_ne nSi).trans hS2
  have hd3 : ItX.dropH H2 it d = some (.frz od (.dK kvs)) := (ItX.dropH_ne ndi).trans hd
  generalize ItX.dropH H2 it = H3 at I3 fp hS3 hd3 hQ
  have go : ∀ (s' : Shared), L2.Inv X pins σ H3 s' → s'.heap.IsKeyIter it d 0 kvs.length ep → codeAny (model X.prog X.w) A (.builtin "list.extend.loop" ⟨[.ref S, .ref it, rt], []⟩) Rs s' := fun s' I' st' =>
    key_loopR hh hod hzk nSi nSd _ 0 H3 s' rfl (Nat.zero_le _) I' fp hd3 hS3 st' fun s'' I'' => done _ s'' I'' hQ
  rw [hsz] at hk
  obtain ⟨zz, its, cc, r3, ln3, e3⟩ := I3.lstM hS3
  cases r3
  refine wpAny_ite_split (fun _ => ?_) (fun _ => wpAny_pure ⟨plainId_quiet PySem.F.plain_extend_loop _, go s2 I3 hk⟩)
  refine wpAny_bind (wpAny_rule (wpAny_bind ?_))
  show wpAny _ _ (updateSeq S (·.push .none) >>= fun _ => updateSeq S (·.pop)) _ _ _
  refine wpAny_bind (wpAny_updateSeq e3 rfl ?_)
  have J1 := I3.lset (f := (·.push Value.none)) (its' := [Value.none]) (ys := [V.non]) (t' := s2.toks) hS3 e3 (by simp) (.cons rfl .nil) (by rw [List.length_singleton, sizeLine_eq]; decide)
  obtain ⟨z4, its4, c4, r4, ln4, e4⟩ := J1.lstM upd_same
  obtain ⟨u4, rfl, ru4⟩ := r4.one
  refine wpAny_updateSeq e4 rfl (wpAny_pure ⟨plainId_quiet PySem.F.plain_extend_loop _, go _ ?_ ?_⟩) (by show 1 ≤ sizeLine; rw [sizeLine_eq]; decide) (by show 0 ≤ sizeLine + 1; exact Nat.zero_le _)
  · have J2 := J1.lset (f := (·.pop)) (its := [u4]) (its' := []) (ys := []) (t' := s2.toks) upd_same e4 (by rfl) .nil (Nat.zero_le _)
    rw [upd_upd, show upd H3 S (.lst []) = H3 from by
      funext b
      by_cases hb : b = S
      · rw [hb, upd_same, hS3]
      · rw [upd_ne hb]] at J2
    exact J2
  · exact hk.at fun o e => (Heap.get?_update_other _ _ nSi).trans ((Heap.get?_update_other _ _ nSi).trans e)
theorem iter_own {pins : List (Addr × Obj)} {σ : L2.St} {H : Hp} {s : Shared} {a dx : Addr} {fs : List (Str × V)} {E0 : Value → Shared → Prop} {Q : Bool → Shared → Prop} (I : L2.Inv X pins σ H s) (ha : H a = some (.ins C dx fs))
    (hs : PySem.W.findIn X.K (.ref C) "__iter__" = some (some (.ref f))) (hf : PySem.W.isFn X.K (.ref f) = true) (q : Q false s) : wpAny (model X.prog X.w) X.A (notIterableAtAll (.ref a)) Q E0 s := by
  obtain ⟨mA, J, _⟩ := ins_get I.hok ha
  obtain ⟨od0, J, _⟩ := J.look
  unfold notIterableAtAll specialOf
  refine wpAny_bind (wpAny_bind (J.type.here ((PySem.W.looks_findIn I.kIn hs).here ?_)))
  exact wpAny_pure q
/-- what lies in the list S that the walk filled -/
def StarQ (S : Addr) (k : List V → Hp → Prop) : VK := fun v H' => ∃ ys, H' S = some (.lst ys) ∧ k ys H'
theorem star_own {pins : List (Addr × Obj)} {σ : L2.St} {H : Hp} {s : Shared} {a dx : Addr} {fs : List (Str × V)} {k : List V → Hp → Prop} {R : List Value → Shared → Prop}
    (F : ∀ base, FnOk X.prog X.w X.K X.mg base CX n f fd ps (sp base.objs.size)) (hb : L2.Binds X.K fd ps []) (hx : Passes CX X E) (hc : X.calm = true) (hr : Room (n + 1) X.A)
    (hs : PySem.W.findIn X.K (.ref C) "__iter__" = some (some (.ref f))) (hf : PySem.W.isFn X.K (.ref f) = true) (n1 : PySem.W.findIn X.K (.ref C) "__len__" = some none) (n2 : PySem.W.findIn X.K (.ref C) "__length_hint__" = some none)
    (I : L2.Inv X pins σ H s) (ha : H a = some (.ins C dx fs)) (hq : ∀ S, H S = none → ∀ m, sp m [.ref a] (upd H S (.lst [])) (ListTold C a S (StarQ S k) m) E)
    (hR : ∀ us s' ys H', L2.Inv X pins σ H' s' → Vals ys us → k ys H' → R us s') : PySem.W.StarOf (model X.prog X.w) X.A X.xe (.ref a) R s := by
  unfold PySem.W.StarOf
  refine iter_own I ha hs hf ⟨rfl, ?_⟩
  unfold collect
  refine wpAny_bind (wpAny_runValue (codeAny_builtin PySem.F.entry_proto_collect ?_))
  rw [Around.under_plainId PySem.F.plain_proto_collect _]
  show wpAny _ X.A.in1 (newList [] >>= fun l => again (.builtin "list.__iadd__" ⟨[l, .ref a], []⟩)) _ _ s
  have fr : H s.heap.objs.size = none := I.hok.fresh (Nat.le_refl _)
  have I1 : L2.Inv X pins σ (upd H s.heap.objs.size (.lst [])) { s with heap := s.heap.push { cls := .type "list", data := .seq #[] } } := I.lnew (its := []) (t' := s.toks) .nil (Nat.zero_le _)
  refine wpAny_bind (wpAny_newObj_type ?_)
  refine wpAny_pure ⟨plainId_quiet PySem.F.plain_list_iadd _, codeAny_builtin PySem.F.entry_list_iadd ?_⟩
  rw [Around.under_plainId PySem.F.plain_list_iadd _]
  show wpAny _ X.A.in1 (Builtin.List.listExtendWith (.ref s.heap.objs.size) (.ref a) (.ref s.heap.objs.size)) _ _ _
  have key := list_fillR (A := X.A) (rt := .ref s.heap.objs.size) (Rs := wants (fun r s2 => r = .ref s.heap.objs.size ∧ EP X pins σ (StarQ s.heap.objs.size k) (.ref s.heap.objs.size) s2) X.xe) F hb hx (Room.in1 hr) rfl (I.ok.hd hc) hs hf n1 n2 I1 (by rw [upd_ne (ne_of_none ha fr)]; exact ha) upd_same (hq _ fr)
    (fun H' s' I' q => ⟨rfl, .ref _, H', I', rfl, q⟩) fun e s' he => he
  have fin : ∀ (q : Result) (s2 : Shared), wants (fun r s2 => r = .ref s.heap.objs.size ∧ EP X pins σ (StarQ s.heap.objs.size k) (.ref s.heap.objs.size) s2) X.xe q s2 →
      match q with
      | .ok (.ret v) => wpAny (model X.prog X.w) X.A (match v with
        | Value.ref a => do
          let __do_lift ← load a
          match __do_lift.data with
            | Data.seq xs epoch => pure xs.toList
            | x => unsupported "internal:collect"
        | x => unsupported "internal:collect") R X.xe s2
      | .ok _ => False
      | .error e => X.xe e s2 := fun q s2 y => by
    cases q with
    | error e => exact y
    | ok fl =>
      cases fl with
      | ret v =>
        obtain ⟨rfl, x, H', I', rx, ys, hS, hk⟩ := y
        obtain ⟨z, its, cc, r3, ln3, e3⟩ := I'.lstM hS
        refine wpAny_bind (wpAny_load e3 (wpAny_pure ?_))
        have e : its.toArray.toList = its := by simp
        rw [e]
        exact hR _ _ _ _ I' r3 hk
      | next => exact y
      | brk => exact y
      | cont => exact y
  refine wpAny_mono key (fun fn s' x => ?_) fun e s' x => x
  cases fn with
  | done q0 => exact fin _ _ x
  | again c₁ => exact ⟨x.1, codeAny_mono x.2 fun q s₂ y => fin _ _ y⟩
theorem star_ownL {pins : List (Addr × Obj)} {σ : L2.St} {H : Hp} {s : Shared} {a dx : Addr} {fs : List (Str × V)} {k : List V → Hp → Prop} {R : List Value → Shared → Prop}
    (F : ∀ base, FnOk X.prog X.w X.K X.mg base CX n f fd ps (sp base.objs.size)) (hb : L2.Binds X.K fd ps []) (hx : Passes CX X E) (hc : X.calm = true) (hr : Room (n + 1) X.A) (hrm : Room (m + 2) X.A)
    (hs : PySem.W.findIn X.K (.ref C) "__iter__" = some (some (.ref f))) (hf : PySem.W.isFn X.K (.ref f) = true) (G : FnOk X.prog X.w X.K X.mg X.base CX0 m g gd qs sl) (hgb : L2.Binds X.K gd qs []) (n1 : PySem.W.findIn X.K (.ref C) "__len__" = some (some (.ref g))) (n2 : PySem.W.isFn X.K (.ref g) = true)
    (I : L2.Inv X pins σ H s) (ha : H a = some (.ins C dx fs)) (hq : ∀ S, H S = none → ∀ m, sp m [.ref a] (upd H S (.lst [])) (ListToldL C a S sl E (StarQ S k) m) E)
    (hR : ∀ us s' ys H', L2.Inv X pins σ H' s' → Vals ys us → k ys H' → R us s') : PySem.W.StarOf (model X.prog X.w) X.A X.xe (.ref a) R s := by
  unfold PySem.W.StarOf
  refine iter_own I ha hs hf ⟨rfl, ?_⟩
  unfold collect
  refine wpAny_bind (wpAny_runValue (codeAny_builtin PySem.F.entry_proto_collect ?_))
  rw [Around.under_plainId PySem.F.plain_proto_collect _]
  show wpAny _ X.A.in1 (newList [] >>= fun l => again (.builtin "list.__iadd__" ⟨[l, .ref a], []⟩)) _ _ s
  have fr : H s.heap.objs.size = none := I.hok.fresh (Nat.le_refl _)
  have I1 : L2.Inv X pins σ (upd H s.heap.objs.size (.lst [])) { s with heap := s.heap.push { cls := .type "list", data := .seq #[] } } := I.lnew (its := []) (t' := s.toks) .nil (Nat.zero_le _)
  refine wpAny_bind (wpAny_newObj_type ?_)
  refine wpAny_pure ⟨plainId_quiet PySem.F.plain_list_iadd _, codeAny_builtin PySem.F.entry_list_iadd ?_⟩
  rw [Around.under_plainId PySem.F.plain_list_iadd _]
  show wpAny _ X.A.in1 (Builtin.List.listExtendWith (.ref s.heap.objs.size) (.ref a) (.ref s.heap.objs.size)) _ _ _
  have key := list_fillLR (A := X.A) (rt := .ref s.heap.objs.size) (Rs := wants (fun r s2 => r = .ref s.heap.objs.size ∧ EP X pins σ (StarQ s.heap.objs.size k) (.ref s.heap.objs.size) s2) X.xe) F hb hx (Room.in1 hr) (Room.in1 hrm) rfl (I.ok.hd hc) hs hf G hgb n1 n2 I1 (by rw [upd_ne (ne_of_none ha fr)]; exact ha) upd_same (hq _ fr)
    (fun H' s' I' q => ⟨rfl, .ref _, H', I', rfl, q⟩) fun e s' he => he
  have fin : ∀ (q : Result) (s2 : Shared), wants (fun r s2 => r = .ref s.heap.objs.size ∧ EP X pins σ (StarQ s.heap.objs.size k) (.ref s.heap.objs.size) s2) X.xe q s2 →
      match q with
      | .ok (.ret v) => wpAny (model X.prog X.w) X.A (match v with
        | Value.ref a => do
          let __do_lift ← load a
          match __do_lift.data with
            | Data.seq xs epoch => pure xs.toList
            | x => unsupported "internal:collect"
        | x => unsupported "internal:collect") R X.xe s2
      | .ok _ => False
      | .error e => X.xe e s2 := fun q s2 y => by
    cases q with
    | error e => exact y
    | ok fl =>
      cases fl with
      | ret v =>
        obtain ⟨rfl, x, H', I', rx, ys, hS, hk⟩ := y
        obtain ⟨z, its, cc, r3, ln3, e3⟩ := I'.lstM hS
        refine wpAny_bind (wpAny_load e3 (wpAny_pure ?_))
        have e : its.toArray.toList = its := by simp
        rw [e]
        exact hR _ _ _ _ I' r3 hk
      | next => exact y
      | brk => exact y
      | cont => exact y
  refine wpAny_mono key (fun fn s' x => ?_) fun e s' x => x
  cases fn with
  | done q0 => exact fin _ _ x
  | again c₁ => exact ⟨x.1, codeAny_mono x.2 fun q s₂ y => fin _ _ y⟩
end
section
variable {X : Cx} {CX : CXT} {C f g : Addr} {fd gd : FuncData} {ps qs : List Str} {n m : Nat} {spi : Nat → Sp} {sl : Sp} {E : XK} {e : Expr} {es : List Expr} {te : TE} {t : TA} {p : Pos}
def tStarI (C : Addr) (spi : Nat → Sp) (E : XK) (te : TE) (t : TA) : TA := fun σ H Q => te σ H fun x H1 => ∃ a dx fs, x = V.ref a ∧ H1 a = some (.ins C dx fs) ∧ ∀ S, H1 S = none → ∀ m, spi m [.ref a] (upd H1 S (.lst [])) (ListTold C a S (StarQ S fun ys H2 => t σ H2 fun zs H3 => Q (ys ++ zs) H3) m) E
def tStarIL (C : Addr) (spi : Nat → Sp) (sl : Sp) (E : XK) (te : TE) (t : TA) : TA := fun σ H Q => te σ H fun x H1 => ∃ a dx fs, x = V.ref a ∧ H1 a = some (.ins C dx fs) ∧ ∀ S, H1 S = none → ∀ m, spi m [.ref a] (upd H1 S (.lst [])) (ListToldL C a S sl E (StarQ S fun ys H2 => t σ H2 fun zs H3 => Q (ys ++ zs) H3) m) E
theorem pa_starI (F : ∀ base, FnOk X.prog X.w X.K X.mg base CX n f fd ps (spi base.objs.size)) (hb : L2.Binds X.K fd ps []) (hx : Passes CX X E) (hc : X.calm = true) (hr : Room (n + 1) X.A)
    (hs0 : PySem.W.findIn X.K (.ref C) "__iter__" = some (some (.ref f))) (hf : PySem.W.isFn X.K (.ref f) = true) (n1 : PySem.W.findIn X.K (.ref C) "__len__" = some none) (n2 : PySem.W.findIn X.K (.ref C) "__length_hint__" = some none)
    (he : PE X e te) (hr2 : PA X es t) (hs : starEach (.Starred e p :: es) X.env = (true, eval e X.env) :: starEach es X.env := by rfl) : PA X (.Starred e p :: es) (tStarI C spi E te t) := by
  refine ⟨fun pos pins s σ H Q I h => ?_⟩
  refine PySem.W.items_star (thn (he.run pins s σ H _ I h) fun v s1 ⟨y, H1, I1, ry, a, dx, fs, ey, ha, q⟩ => ?_) hs
  subst ey
  obtain rfl : v = Value.ref a := ry
  refine star_own F hb hx hc hr hs0 hf n1 n2 I1 ha q fun us s2 ys H2 I2 rv hk => ?_
  exact thn (hr2.run pos pins s2 σ H2 _ I2 hk) fun ws s3 ⟨vs, H3, I3, r3, q3⟩ => ⟨_ ++ vs, H3, I3, rv.append r3, q3⟩
theorem pa_starIL (F : ∀ base, FnOk X.prog X.w X.K X.mg base CX n f fd ps (spi base.objs.size)) (hb : L2.Binds X.K fd ps []) (hx : Passes CX X E) (hc : X.calm = true) (hr : Room (n + 1) X.A) (hrm : Room (m + 2) X.A)
    (hs0 : PySem.W.findIn X.K (.ref C) "__iter__" = some (some (.ref f))) (hf : PySem.W.isFn X.K (.ref f) = true) (G : FnOk X.prog X.w X.K X.mg X.base CX0 m g gd qs sl) (hgb : L2.Binds X.K gd qs []) (n1 : PySem.W.findIn X.K (.ref C) "__len__" = some (some (.ref g))) (n2 : PySem.W.isFn X.K (.ref g) = true)
    (he : PE X e te) (hr2 : PA X es t) (hs : starEach (.Starred e p :: es) X.env = (true, eval e X.env) :: starEach es X.env := by rfl) : PA X (.Starred e p :: es) (tStarIL C spi sl E te t) := by
  refine ⟨fun pos pins s σ H Q I h => ?_⟩
  refine PySem.W.items_star (thn (he.run pins s σ H _ I h) fun v s1 ⟨y, H1, I1, ry, a, dx, fs, ey, ha, q⟩ => ?_) hs
  subst ey
  obtain rfl : v = Value.ref a := ry
  refine star_ownL F hb hx hc hr hrm hs0 hf G hgb n1 n2 I1 ha q fun us s2 ys H2 I2 rv hk => ?_
  exact thn (hr2.run pos pins s2 σ H2 _ I2 hk) fun ws s3 ⟨vs, H3, I3, r3, q3⟩ => ⟨_ ++ vs, H3, I3, rv.append r3, q3⟩
end
end Own
set_option Elab.async false
set_option linter.all false
set_option maxRecDepth 100000
set_option maxHeartbeats 2000000
/-! sorted of a list of one thing, or of none; == of a list and a new empty one -/
namespace Own
open PySem PySem.Spec PyProof.Rows L2 PySem.Calls
section
variable {X : Cx}
def rSorted1 (K : PySem.W.Frag) : List V → Hp → VK → Prop := fun vs H Q => ∃ (a : Addr) (xs : List V), vs = [V.ref a] ∧ SqL K H a xs ∧ xs.length ≤ 1 ∧ ∀ p, H p = none → Q (.ref p) (upd H p (.lst xs))
theorem perm_one {α : Type} {xs ys : List α} (h : xs.Perm ys) (l : ys.length ≤ 1) : xs = ys := by
  match ys, l with
  | [], _ => exact h.eq_nil
  | [y], _ => exact List.perm_singleton.mp h
  | _ :: _ :: _, l => exact absurd l (by simp)
theorem cr_sorted1 : CallR X (.builtin "sorted") (rSorted1 X.K) := by
  intro pins s σ H vs us Q I r h
  obtain ⟨a, xs, rfl, hs, h1, q⟩ := h
  obtain ⟨its, rv, hl, hz⟩ := I.list hs
  obtain ⟨u, rfl, ru⟩ := vals1 r
  obtain rfl : u = Value.ref a := ru
  refine SrtO.sorted_ord (ltv := fun _ _ => false) ⟨fun _ _ _ => rfl, fun _ _ _ _ _ => rfl⟩ hl.isList (by rw [← rv.length]; exact hz) (fun h2 => absurd h2 (by rw [← rv.length]; omega)) fun out hs hb => ?_
  have e : out = its := perm_one hb.perm (by rw [← rv.length]; exact h1)
  subst e
  obtain ⟨n, hn⟩ := sortedAll_at s.heap out out.toArray
  refine ⟨.ref _, upd H _ (.lst xs), I.laid (t' := s.toks) (fun b o e => sortedAll_old e) (Nat.le_succ _) ⟨hz, out, n, rv, hn⟩, rfl, q _ (I.hok.fresh (Nat.le_succ _))⟩
theorem sorted1Of {K : PySem.W.Frag} (h : X.K = K) : CallR X (.builtin "sorted") (rSorted1 K) := h ▸ cr_sorted1
/-- name = {k: v for ..} on one row, the name a local -/
theorem ps_setDc {i : Nat} {nm : Str} {p1 p2 p3 : Pos} {ek ev target it : Expr} {cs : List Expr} {sco : Scope} {mine : List (Str × Nat)} {wI : TI} {gg : TG} {tT : TT} {tK tV : TE} (calm : X.calm = true) (nd : X.N.Nodup)
    (at_ : X.N[i]? = some nm) (loc : X.env.scope.names.lookup nm = some .local) (sw : swapsWith (.DictComp ek ev [⟨target, it, cs, 0⟩] sco p1) (some (.Name nm p2)) p3.line X.env = pure true)
    (w : PI X target it wI) (ok : BlkOk X.N X.env.scope sco mine)
    (a1 : ∀ (s : Shared) (H : Hp) (C : Addr) (cl : List (Str × Addr)) (fp : List Addr), PG (X.blk s H sco (compEnvC sco cl C X.env) fp) target gg)
    (a2 : ∀ (s : Shared) (H : Hp) (C : Addr) (cl : List (Str × Addr)) (fp : List Addr), PTs (X.blk s H sco (compEnvC sco cl C X.env) fp) cs tT)
    (a3 : ∀ (s : Shared) (H : Hp) (C : Addr) (cl : List (Str × Addr)) (fp : List Addr), PE (X.blk s H sco (compEnvC sco cl C X.env) fp) ek tK)
    (a4 : ∀ (s : Shared) (H : Hp) (C : Addr) (cl : List (Str × Addr)) (fp : List Addr), PE (X.blk s H sco (compEnvC sco cl C X.env) fp) ev tV) (a5 : ∀ x, foldedSetIterable it X.env x = pure x := by intro _; rfl) :
    PS X (.Assign [.Name nm p2] (.DictComp ek ev [⟨target, it, cs, 0⟩] sco p1) p3) (tAsg (tDc wI gg tT tK tV (mine.map (·.2))) (gName i)) := by
  refine ⟨fun pins s σ H D J q0 => ?_⟩
  rw [exec_Assign_Name_used _ _ _ _ sw]
  refine wpAny_bind (wpAny_standAt (wpAny_bind ?_))
  show wpAny _ X.A (do let _ ← comprehension (.DictComp ek ev [⟨target, it, cs, 0⟩] sco p1) sco X.env (firstIterPos [⟨target, it, cs, 0⟩] p1) newDict false (eval it X.env) (some (assign (.Name nm p2) X.env))) _ _ s
  have q1 : tDc wI gg tT tK tV (mine.map (·.2)) σ H (fun x H1 => gName i x σ H1 D.nx) := q0
  refine wpAny_bind (thn (dc_core (Qf := fun _ s1 => SP X pins D .next s1) calm nd J w ok a1 a2 a3 a4 a5 q1 fun L C s1 m H1 J1 q hn f => ?_) fun _ s1 hq => wpAny_pure (wpAny_pure hq))
  show wpAny _ _ (assign (.Name nm p2) X.env (.ref L)) _ _ _
  refine wpAny_assign_Name (store_ok2 (v := V.ref L) J1 nd at_ (.inl loc) rfl (fun s2 J2 ⟨a, sb, ha⟩ => ?_) (.inr loc))
  obtain ⟨e0, e1, e2, e3, e4, e5⟩ := f
  have ne : C ≠ a := ha.elim (fun z => by rw [z]; exact e1) fun z u => e4 nm a z u.symm
  exact ⟨m, hn.sameBut sb ne, fun h3 sb3 => ⟨_, H1, J2.turned (t' := s2.toks) (fun b o hb e => (sb3.2 b hb).trans e) e0 e1 e3 e4 e5, q⟩⟩
theorem sw_trueD {ek ev : Expr} {gs : List Comprehension} {sco : Scope} {p1 p2 : Pos} {nm : Str} {l : Nat} {env : Env} (a1 : env.scope.kind = .function) (a2 : env.scope.names.lookup nm = some .local) (a3 : (p2.line == p1.line) = true)
    (a4 : (sco.names.any fun (n, k) => n == nm && (k == .local || k == .cell)) = false) : swapsWith (.DictComp ek ev gs sco p1) (some (.Name nm p2)) l env = pure true := by
  have b1 : env.kindOf nm = some .local := a2
  have b2 : env.blockKind = .function := by
    unfold Env.blockKind
    rw [a1]; rfl
  unfold swapsWith
  simp only [b2, b1, a4, Expr.pos, a3]
  rfl
end
end Own
set_option Elab.async false
set_option linter.all false
set_option maxRecDepth 100000
set_option maxHeartbeats 4000000
namespace K5
open PySem L2
structure Ad where
  a_is_integer : Addr
  d_is_integer : FuncData
  a_is_list : Addr
  d_is_list : FuncData
  a_is_name : Addr
  d_is_name : FuncData
  a_is_dish : Addr
  d_is_dish : FuncData
  a_alike : Addr
  d_alike : FuncData
  a_copied : Addr
  d_copied : FuncData
  a_TooEarly___init__ : Addr
  d_TooEarly___init__ : FuncData
  a_Overdue___init__ : Addr
  d_Overdue___init__ : FuncData
  a_TooSoon___init__ : Addr
  d_TooSoon___init__ : FuncData
  a_is_bounds : Addr
  d_is_bounds : FuncData
  a_is_moment : Addr
  d_is_moment : FuncData
  a_is_wish : Addr
  d_is_wish : FuncData
  a_is_station : Addr
  d_is_station : FuncData
  a_as_moment : Addr
  d_as_moment : FuncData
  a_as_wish : Addr
  d_as_wish : FuncData
  a_check_dish : Addr
  d_check_dish : FuncData
  a_check_same : Addr
  d_check_same : FuncData
  a_is_hook : Addr
  d_is_hook : FuncData
  a_check_rounds : Addr
  d_check_rounds : FuncData
  a_round_from : Addr
  d_round_from : FuncData
  a_Book___init__ : Addr
  d_Book___init__ : FuncData
  a_Book_rows : Addr
  d_Book_rows : FuncData
  a_Book___getitem__ : Addr
  d_Book___getitem__ : FuncData
  a_Book___iter__ : Addr
  d_Book___iter__ : FuncData
  a_check_entries : Addr
  d_check_entries : FuncData
  a_is_entry : Addr
  d_is_entry : FuncData
  a_is_wait : Addr
  d_is_wait : FuncData
  a_Meal___init__ : Addr
  d_Meal___init__ : FuncData
  a_Meal_dishes : Addr
  d_Meal_dishes : FuncData
  a_Meal___len__ : Addr
  d_Meal___len__ : FuncData
  a_Meal___iter__ : Addr
  d_Meal___iter__ : FuncData
  a_Meal___add__ : Addr
  d_Meal___add__ : FuncData
  a_check_dishes : Addr
  d_check_dishes : FuncData
  a_check_wishes : Addr
  d_check_wishes : FuncData
  a_check_stations : Addr
  d_check_stations : FuncData
  a_Course___init__ : Addr
  d_Course___init__ : FuncData
  a_opened : Addr
  d_opened : FuncData
  a_due : Addr
  d_due : FuncData
  a_started_until : Addr
  d_started_until : FuncData
  a_is_running : Addr
  d_is_running : FuncData
  a_state_of : Addr
  d_state_of : FuncData
  a_gone : Addr
  d_gone : FuncData
  a_called : Addr
  d_called : FuncData
  a_put_in : Addr
  d_put_in : FuncData
  a_hung_at : Addr
  d_hung_at : FuncData
  a_Evening___init__ : Addr
  d_Evening___init__ : FuncData
  a_Evening_minute : Addr
  d_Evening_minute : FuncData
  a_Evening_state : Addr
  d_Evening_state : FuncData
  a_Evening_go : Addr
  d_Evening_go : FuncData
  a_Evening_call : Addr
  d_Evening_call : FuncData
  a_Evening_put : Addr
  d_Evening_put : FuncData
  a_Evening_follow : Addr
  d_Evening_follow : FuncData
  a_Evening_undo : Addr
  d_Evening_undo : FuncData
  a__law_fresh : Addr
  d__law_fresh : FuncData
  a__law_take : Addr
  d__law_take : FuncData
  a__law_one : Addr
  d__law_one : FuncData
  a__law_mix : Addr
  d__law_mix : FuncData
  a__law_same : Addr
  d__law_same : FuncData
  a__law_names : Addr
  d__law_names : FuncData
  a__law_refused : Addr
  d__law_refused : FuncData
  a__law_is_over : Addr
  d__law_is_over : FuncData
  a__law_number : Addr
  d__law_number : FuncData
  a_law : Addr
  d_law : FuncData
  a_TooEarly : Addr
  a_Overdue : Addr
  a_TooSoon : Addr
  a_Book : Addr
  a_Meal : Addr
  a_Course : Addr
  a_Evening : Addr
  a_EDGES : Addr
  a_W0 : Addr
  a_S0 : Addr
structure Txt (K : PySem.W.Frag) (mg : Str → Option Value) (A : Ad) : Prop where
  f_is_integer : Fun K "is_integer" "is_integer" s_is_integer A.a_is_integer A.d_is_integer
  g_is_integer : mg "is_integer" = some (.ref A.a_is_integer)
  b_is_integer : Binds K A.d_is_integer P_is_integer []
  f_is_list : Fun K "is_list" "is_list" s_is_list A.a_is_list A.d_is_list
  g_is_list : mg "is_list" = some (.ref A.a_is_list)
  b_is_list : Binds K A.d_is_list P_is_list []
  f_is_name : Fun K "is_name" "is_name" s_is_name A.a_is_name A.d_is_name
  g_is_name : mg "is_name" = some (.ref A.a_is_name)
  b_is_name : Binds K A.d_is_name P_is_name []
  f_is_dish : Fun K "is_dish" "is_dish" s_is_dish A.a_is_dish A.d_is_dish
  g_is_dish : mg "is_dish" = some (.ref A.a_is_dish)
  b_is_dish : Binds K A.d_is_dish P_is_dish []
  f_alike : Fun K "alike" "alike" s_alike A.a_alike A.d_alike
  g_alike : mg "alike" = some (.ref A.a_alike)
  b_alike : Binds K A.d_alike P_alike []
  f_copied : Fun K "copied" "copied" s_copied A.a_copied A.d_copied
  g_copied : mg "copied" = some (.ref A.a_copied)
  b_copied : Binds K A.d_copied P_copied []
  f_TooEarly___init__ : Fun K "__init__" "TooEarly.__init__" s_TooEarly___init__ A.a_TooEarly___init__ A.d_TooEarly___init__
  b_TooEarly___init__ : Binds K A.d_TooEarly___init__ P_TooEarly___init__ []
  f_Overdue___init__ : Fun K "__init__" "Overdue.__init__" s_Overdue___init__ A.a_Overdue___init__ A.d_Overdue___init__
  b_Overdue___init__ : Binds K A.d_Overdue___init__ P_Overdue___init__ []
  f_TooSoon___init__ : Fun K "__init__" "TooSoon.__init__" s_TooSoon___init__ A.a_TooSoon___init__ A.d_TooSoon___init__
  b_TooSoon___init__ : Binds K A.d_TooSoon___init__ P_TooSoon___init__ []
  f_is_bounds : Fun K "is_bounds" "is_bounds" s_is_bounds A.a_is_bounds A.d_is_bounds
  g_is_bounds : mg "is_bounds" = some (.ref A.a_is_bounds)
  b_is_bounds : Binds K A.d_is_bounds P_is_bounds []
  f_is_moment : Fun K "is_moment" "is_moment" s_is_moment A.a_is_moment A.d_is_moment
  g_is_moment : mg "is_moment" = some (.ref A.a_is_moment)
  b_is_moment : Binds K A.d_is_moment P_is_moment []
  f_is_wish : Fun K "is_wish" "is_wish" s_is_wish A.a_is_wish A.d_is_wish
  g_is_wish : mg "is_wish" = some (.ref A.a_is_wish)
  b_is_wish : Binds K A.d_is_wish P_is_wish []
  f_is_station : Fun K "is_station" "is_station" s_is_station A.a_is_station A.d_is_station
  g_is_station : mg "is_station" = some (.ref A.a_is_station)
  b_is_station : Binds K A.d_is_station P_is_station []
  f_as_moment : Fun K "as_moment" "as_moment" s_as_moment A.a_as_moment A.d_as_moment
  g_as_moment : mg "as_moment" = some (.ref A.a_as_moment)
  b_as_moment : Binds K A.d_as_moment P_as_moment []
  f_as_wish : Fun K "as_wish" "as_wish" s_as_wish A.a_as_wish A.d_as_wish
  g_as_wish : mg "as_wish" = some (.ref A.a_as_wish)
  b_as_wish : Binds K A.d_as_wish P_as_wish []
  f_check_dish : Fun K "check_dish" "check_dish" s_check_dish A.a_check_dish A.d_check_dish
  g_check_dish : mg "check_dish" = some (.ref A.a_check_dish)
  b_check_dish : Binds K A.d_check_dish P_check_dish []
  f_check_same : Fun K "check_same" "check_same" s_check_same A.a_check_same A.d_check_same
  g_check_same : mg "check_same" = some (.ref A.a_check_same)
  b_check_same : Binds K A.d_check_same P_check_same []
  f_is_hook : Fun K "is_hook" "is_hook" s_is_hook A.a_is_hook A.d_is_hook
  g_is_hook : mg "is_hook" = some (.ref A.a_is_hook)
  b_is_hook : Binds K A.d_is_hook P_is_hook []
  f_check_rounds : Fun K "check_rounds" "check_rounds" s_check_rounds A.a_check_rounds A.d_check_rounds
  g_check_rounds : mg "check_rounds" = some (.ref A.a_check_rounds)
  b_check_rounds : Binds K A.d_check_rounds P_check_rounds []
  f_round_from : Fun K "round_from" "round_from" s_round_from A.a_round_from A.d_round_from
  g_round_from : mg "round_from" = some (.ref A.a_round_from)
  b_round_from : Binds K A.d_round_from P_round_from []
  f_Book___init__ : Fun K "__init__" "Book.__init__" s_Book___init__ A.a_Book___init__ A.d_Book___init__
  b_Book___init__ : Binds K A.d_Book___init__ P_Book___init__ []
  f_Book_rows : Fun K "rows" "Book.rows" s_Book_rows A.a_Book_rows A.d_Book_rows
  b_Book_rows : Binds K A.d_Book_rows P_Book_rows []
  f_Book___getitem__ : Fun K "__getitem__" "Book.__getitem__" s_Book___getitem__ A.a_Book___getitem__ A.d_Book___getitem__
  b_Book___getitem__ : Binds K A.d_Book___getitem__ P_Book___getitem__ []
  f_Book___iter__ : Fun K "__iter__" "Book.__iter__" s_Book___iter__ A.a_Book___iter__ A.d_Book___iter__
  b_Book___iter__ : Binds K A.d_Book___iter__ P_Book___iter__ []
  f_check_entries : Fun K "check_entries" "check_entries" s_check_entries A.a_check_entries A.d_check_entries
  g_check_entries : mg "check_entries" = some (.ref A.a_check_entries)
  b_check_entries : Binds K A.d_check_entries P_check_entries []
  f_is_entry : Fun K "is_entry" "is_entry" s_is_entry A.a_is_entry A.d_is_entry
  g_is_entry : mg "is_entry" = some (.ref A.a_is_entry)
  b_is_entry : Binds K A.d_is_entry P_is_entry []
  f_is_wait : Fun K "is_wait" "is_wait" s_is_wait A.a_is_wait A.d_is_wait
  g_is_wait : mg "is_wait" = some (.ref A.a_is_wait)
  b_is_wait : Binds K A.d_is_wait P_is_wait []
  f_Meal___init__ : FunD K "__init__" "Meal.__init__" (defArgs s_Meal___init__) (defBody s_Meal___init__) (defScope s_Meal___init__) [.ref A.a_W0, .ref A.a_S0] [] A.a_Meal___init__ A.d_Meal___init__
  f_Meal_dishes : Fun K "dishes" "Meal.dishes" s_Meal_dishes A.a_Meal_dishes A.d_Meal_dishes
  b_Meal_dishes : Binds K A.d_Meal_dishes P_Meal_dishes []
  f_Meal___len__ : Fun K "__len__" "Meal.__len__" s_Meal___len__ A.a_Meal___len__ A.d_Meal___len__
  b_Meal___len__ : Binds K A.d_Meal___len__ P_Meal___len__ []
  f_Meal___iter__ : Fun K "__iter__" "Meal.__iter__" s_Meal___iter__ A.a_Meal___iter__ A.d_Meal___iter__
  b_Meal___iter__ : Binds K A.d_Meal___iter__ P_Meal___iter__ []
  f_Meal___add__ : Fun K "__add__" "Meal.__add__" s_Meal___add__ A.a_Meal___add__ A.d_Meal___add__
  b_Meal___add__ : Binds K A.d_Meal___add__ P_Meal___add__ []
  f_check_dishes : Fun K "check_dishes" "check_dishes" s_check_dishes A.a_check_dishes A.d_check_dishes
  g_check_dishes : mg "check_dishes" = some (.ref A.a_check_dishes)
  b_check_dishes : Binds K A.d_check_dishes P_check_dishes []
  f_check_wishes : Fun K "check_wishes" "check_wishes" s_check_wishes A.a_check_wishes A.d_check_wishes
  g_check_wishes : mg "check_wishes" = some (.ref A.a_check_wishes)
  b_check_wishes : Binds K A.d_check_wishes P_check_wishes []
  f_check_stations : Fun K "check_stations" "check_stations" s_check_stations A.a_check_stations A.d_check_stations
  g_check_stations : mg "check_stations" = some (.ref A.a_check_stations)
  b_check_stations : Binds K A.d_check_stations P_check_stations []
  f_Course___init__ : Fun K "__init__" "Course.__init__" s_Course___init__ A.a_Course___init__ A.d_Course___init__
  b_Course___init__ : Binds K A.d_Course___init__ P_Course___init__ []
  f_opened : Fun K "opened" "opened" s_opened A.a_opened A.d_opened
  g_opened : mg "opened" = some (.ref A.a_opened)
  b_opened : Binds K A.d_opened P_opened []
  f_due : Fun K "due" "due" s_due A.a_due A.d_due
  g_due : mg "due" = some (.ref A.a_due)
  b_due : Binds K A.d_due P_due []
  f_started_until : Fun K "started_until" "started_until" s_started_until A.a_started_until A.d_started_until
  g_started_until : mg "started_until" = some (.ref A.a_started_until)
  b_started_until : Binds K A.d_started_until P_started_until []
  f_is_running : Fun K "is_running" "is_running" s_is_running A.a_is_running A.d_is_running
  g_is_running : mg "is_running" = some (.ref A.a_is_running)
  b_is_running : Binds K A.d_is_running P_is_running []
  f_state_of : Fun K "state_of" "state_of" s_state_of A.a_state_of A.d_state_of
  g_state_of : mg "state_of" = some (.ref A.a_state_of)
  b_state_of : Binds K A.d_state_of P_state_of []
  f_gone : Fun K "gone" "gone" s_gone A.a_gone A.d_gone
  g_gone : mg "gone" = some (.ref A.a_gone)
  b_gone : Binds K A.d_gone P_gone []
  f_called : Fun K "called" "called" s_called A.a_called A.d_called
  g_called : mg "called" = some (.ref A.a_called)
  b_called : Binds K A.d_called P_called []
  f_put_in : Fun K "put_in" "put_in" s_put_in A.a_put_in A.d_put_in
  g_put_in : mg "put_in" = some (.ref A.a_put_in)
  b_put_in : Binds K A.d_put_in P_put_in []
  f_hung_at : Fun K "hung_at" "hung_at" s_hung_at A.a_hung_at A.d_hung_at
  g_hung_at : mg "hung_at" = some (.ref A.a_hung_at)
  b_hung_at : Binds K A.d_hung_at P_hung_at []
  f_Evening___init__ : Fun K "__init__" "Evening.__init__" s_Evening___init__ A.a_Evening___init__ A.d_Evening___init__
  b_Evening___init__ : Binds K A.d_Evening___init__ P_Evening___init__ []
  f_Evening_minute : Fun K "minute" "Evening.minute" s_Evening_minute A.a_Evening_minute A.d_Evening_minute
  b_Evening_minute : Binds K A.d_Evening_minute P_Evening_minute []
  f_Evening_state : Fun K "state" "Evening.state" s_Evening_state A.a_Evening_state A.d_Evening_state
  b_Evening_state : Binds K A.d_Evening_state P_Evening_state []
  f_Evening_go : Fun K "go" "Evening.go" s_Evening_go A.a_Evening_go A.d_Evening_go
  b_Evening_go : Binds K A.d_Evening_go P_Evening_go []
  f_Evening_call : Fun K "call" "Evening.call" s_Evening_call A.a_Evening_call A.d_Evening_call
  b_Evening_call : Binds K A.d_Evening_call P_Evening_call []
  f_Evening_put : Fun K "put" "Evening.put" s_Evening_put A.a_Evening_put A.d_Evening_put
  b_Evening_put : Binds K A.d_Evening_put P_Evening_put []
  f_Evening_follow : Fun K "follow" "Evening.follow" s_Evening_follow A.a_Evening_follow A.d_Evening_follow
  b_Evening_follow : Binds K A.d_Evening_follow P_Evening_follow []
  f_Evening_undo : Fun K "undo" "Evening.undo" s_Evening_undo A.a_Evening_undo A.d_Evening_undo
  b_Evening_undo : Binds K A.d_Evening_undo P_Evening_undo []
  f__law_fresh : Fun K "_law_fresh" "_law_fresh" s__law_fresh A.a__law_fresh A.d__law_fresh
  g__law_fresh : mg "_law_fresh" = some (.ref A.a__law_fresh)
  b__law_fresh : Binds K A.d__law_fresh P__law_fresh []
  f__law_take : Fun K "_law_take" "_law_take" s__law_take A.a__law_take A.d__law_take
  g__law_take : mg "_law_take" = some (.ref A.a__law_take)
  b__law_take : Binds K A.d__law_take P__law_take []
  f__law_one : Fun K "_law_one" "_law_one" s__law_one A.a__law_one A.d__law_one
  g__law_one : mg "_law_one" = some (.ref A.a__law_one)
  b__law_one : Binds K A.d__law_one P__law_one []
  f__law_mix : Fun K "_law_mix" "_law_mix" s__law_mix A.a__law_mix A.d__law_mix
  g__law_mix : mg "_law_mix" = some (.ref A.a__law_mix)
  b__law_mix : Binds K A.d__law_mix P__law_mix []
  f__law_same : Fun K "_law_same" "_law_same" s__law_same A.a__law_same A.d__law_same
  g__law_same : mg "_law_same" = some (.ref A.a__law_same)
  b__law_same : Binds K A.d__law_same P__law_same []
  f__law_names : Fun K "_law_names" "_law_names" s__law_names A.a__law_names A.d__law_names
  g__law_names : mg "_law_names" = some (.ref A.a__law_names)
  b__law_names : Binds K A.d__law_names P__law_names []
  f__law_refused : Fun K "_law_refused" "_law_refused" s__law_refused A.a__law_refused A.d__law_refused
  g__law_refused : mg "_law_refused" = some (.ref A.a__law_refused)
  b__law_refused : Binds K A.d__law_refused P__law_refused []
  f__law_is_over : Fun K "_law_is_over" "_law_is_over" s__law_is_over A.a__law_is_over A.d__law_is_over
  g__law_is_over : mg "_law_is_over" = some (.ref A.a__law_is_over)
  b__law_is_over : Binds K A.d__law_is_over P__law_is_over []
  f__law_number : Fun K "_law_number" "_law_number" s__law_number A.a__law_number A.d__law_number
  g__law_number : mg "_law_number" = some (.ref A.a__law_number)
  b__law_number : Binds K A.d__law_number P__law_number []
  f_law : Fun K "law" "law" s_law A.a_law A.d_law
  g_law : mg "law" = some (.ref A.a_law)
  b_law : Binds K A.d_law P_law []
  g_CLOCK : ∃ t, mg "CLOCK" = some (.str "clock" t)
  g_LETTERS : ∃ t, mg "LETTERS" = some (.str "abcdefghijklmnopqrstuvwxyz" t)
  g_LONGEST_NAME : ∃ t, mg "LONGEST_NAME" = some (.int 8 t)
  len : mg "len" = none
  abs : mg "abs" = none
  int : mg "int" = none
  list : mg "list" = none
  tuple : mg "tuple" = none
  bool : mg "bool" = none
  str : mg "str" = none
  dict : mg "dict" = none
  isinstance : mg "isinstance" = none
  all : mg "all" = none
  any : mg "any" = none
  zip : mg "zip" = none
  enumerate : mg "enumerate" = none
  range : mg "range" = none
  sorted : mg "sorted" = none
  set : mg "set" = none
  iter : mg "iter" = none
  bM1 : ∃ ds, Vals [.ref A.a_W0, .ref A.a_S0] ds ∧ Binds K A.d_Meal___init__ P_Meal___init__ ds
  b_Meal___init__ : Binds K A.d_Meal___init__ P_Meal___init__ []
  cl_B : Cls K A.a_Book
  cl_Co : Cls K A.a_Course
  cl_Ev : Cls K A.a_Evening
  cl_M : Cls K A.a_Meal
  e0 : SqT K (fun _ => none) A.a_S0 []
  e0W : SqT K (fun _ => none) A.a_W0 []
  eOv : PySem.W.exmOne K (.ref A.a_Overdue) (.ref A.a_Overdue) = some true
  eTe : PySem.W.exmOne K (.ref A.a_TooEarly) (.ref A.a_TooEarly) = some true
  eTeOv : PySem.W.exmOne K (.ref A.a_TooEarly) (.ref A.a_Overdue) = some false
  eTeTs : PySem.W.exmOne K (.ref A.a_TooEarly) (.ref A.a_TooSoon) = some false
  eTs : PySem.W.exmOne K (.ref A.a_TooSoon) (.ref A.a_TooSoon) = some true
  eTsOv : PySem.W.exmOne K (.ref A.a_TooSoon) (.ref A.a_Overdue) = some false
  g_Book : mg "Book" = some (.ref A.a_Book)
  g_Course : mg "Course" = some (.ref A.a_Course)
  g_EDGES : mg "EDGES" = some (.ref A.a_EDGES)
  g_Evening : mg "Evening" = some (.ref A.a_Evening)
  g_Meal : mg "Meal" = some (.ref A.a_Meal)
  g_Overdue : mg "Overdue" = some (.ref A.a_Overdue)
  g_TooEarly : mg "TooEarly" = some (.ref A.a_TooEarly)
  g_TooSoon : mg "TooSoon" = some (.ref A.a_TooSoon)
  iOv : PySem.W.findIn K (.ref A.a_Overdue) "__init__" = some (some (.ref A.a_Overdue___init__))
  iTe : PySem.W.findIn K (.ref A.a_TooEarly) "__init__" = some (some (.ref A.a_TooEarly___init__))
  iTs : PySem.W.findIn K (.ref A.a_TooSoon) "__init__" = some (some (.ref A.a_TooSoon___init__))
  m_callE : Meth K A.a_Evening "call" A.a_Evening_call
  m_dishes : Meth K A.a_Meal "dishes" A.a_Meal_dishes
  m_followE : Meth K A.a_Evening "follow" A.a_Evening_follow
  m_goE : Meth K A.a_Evening "go" A.a_Evening_go
  m_iterB : PySem.W.findIn K (.ref A.a_Book) "__iter__" = some (some (.ref A.a_Book___iter__)) ∧ PySem.W.isFn K (.ref A.a_Book___iter__) = true
  m_iterM : PySem.W.findIn K (.ref A.a_Meal) "__iter__" = some (some (.ref A.a_Meal___iter__)) ∧ PySem.W.isFn K (.ref A.a_Meal___iter__) = true
  m_itm : PySem.W.findIn K (.ref A.a_Book) "__getitem__" = some (some (.ref A.a_Book___getitem__)) ∧ PySem.W.fnIn K A.a_Book___getitem__ = true ∧ PySem.W.isFn K (.ref A.a_Book___getitem__) = true
  m_lenM : PySem.W.findIn K (.ref A.a_Meal) "__len__" = some (some (.ref A.a_Meal___len__)) ∧ PySem.W.isFn K (.ref A.a_Meal___len__) = true
  m_minuteE : Meth K A.a_Evening "minute" A.a_Evening_minute
  m_putE : Meth K A.a_Evening "put" A.a_Evening_put
  m_rowsB : Meth K A.a_Book "rows" A.a_Book_rows
  m_stateE : Meth K A.a_Evening "state" A.a_Evening_state
  m_undoE : Meth K A.a_Evening "undo" A.a_Evening_undo
  mkB : Mk K A.a_Book A.a_Book___init__
  mkCo : Mk K A.a_Course A.a_Course___init__
  mkEv : Mk K A.a_Evening A.a_Evening___init__
  mkM : Mk K A.a_Meal A.a_Meal___init__
  nB : NoAttr K A.a_Meal "bounds"
  nBH : NoAttr K A.a_Book "hooks"
  nBW : NoAttr K A.a_Book "waits"
  nCoB : NoAttr K A.a_Course "plan"
  nCoD : NoAttr K A.a_Course "dinner"
  nCoE : NoAttr K A.a_Course "dones"
  nCoP : NoAttr K A.a_Course "passed"
  nCoS : NoAttr K A.a_Course "starts"
  nEvC : NoAttr K A.a_Evening "course"
  nEvP : NoAttr K A.a_Evening "past"
  nHintB : PySem.W.findIn K (.ref A.a_Book) "__length_hint__" = some none
  nLenB : PySem.W.findIn K (.ref A.a_Book) "__len__" = some none
  nOv : PySem.W.findIn K (.ref A.a_Overdue) "name" = some none
  nP : NoAttr K A.a_Meal "places"
  nTe : PySem.W.findIn K (.ref A.a_TooEarly) "name" = some none
  nTs : PySem.W.findIn K (.ref A.a_TooSoon) "name" = some none
  nW : NoAttr K A.a_Meal "wished"
  oAdd : PySem.W.findIn K (.ref A.a_Meal) (PySem.dunder (Operator.info .Add).2) = some (some (.ref A.a_Meal___add__)) ∧ PySem.W.isFn K (.ref A.a_Meal___add__) = true
  sfM : PySem.W.selfFirst K A.a_Meal = true
  tOv : PySem.W.typeIn K (.ref A.a_Overdue___init__) = some (.type "function")
  tTe : PySem.W.typeIn K (.ref A.a_TooEarly___init__) = some (.type "function")
  tTs : PySem.W.typeIn K (.ref A.a_TooSoon___init__) = some (.type "function")
  t_EDGES : SqT K (fun _ => none) A.a_EDGES [.str "start", .str "done"]
  xOv : OexC K A.a_Overdue
  xTe : OexC K A.a_TooEarly
  xTs : OexC K A.a_TooSoon
  xfOv : XfC K A.a_Overdue
  xfTe : XfC K A.a_TooEarly
  xfTs : XfC K A.a_TooSoon
end K5
set_option Elab.async false
set_option linter.all false
set_option maxRecDepth 100000
set_option maxHeartbeats 4000000
namespace K5
open PySem L2
local macro_rules | `(tactic| walk_at "rd1") => `(tactic| first
  | refine ⟨_, _, rfl, rfl, ?_⟩
  | refine ⟨_, _, _, _, rfl, rfl, SqL.of (by assumption), rfl, ?_⟩
  | refine ⟨_, _, _, _, rfl, rfl, (by assumption), rfl, ?_⟩
  | refine .inl ⟨_, rfl, ?_⟩
  | refine ⟨_, rfl, ?_⟩
  | refine ⟨(by unfold CMul; omega), ?_⟩
  | refine ⟨(by unfold CPow; omega), ?_⟩
  | refine ⟨(by (try dsimp only); omega), ?_⟩
  | refine ⟨(by unfold CDiv; omega), ?_⟩
  | fail "rd1")
local macro_rules | `(tactic| walk_at "rd") => `(tactic| repeat' (walk_at "rd1"))
open PySem L2
section
variable {P : Program} {w : World} {K : PySem.W.Frag} {mg : Str → Option Value} {base : Heap} {A : Ad}
def er (H : Hp) (st : Addr) : Hp := fun b => if b = st then none else H b
theorem er_ne {H : Hp} {st b : Addr} (h : b ≠ st) : er H st b = H b := if_neg h
theorem er_some {H : Hp} {st b : Addr} {o : HO} (h : er H st b = some o) : b ≠ st ∧ H b = some o := by
  by_cases e : b = st
  · rw [e] at h
    rw [show er H st st = none from if_pos rfl] at h
    cases h
  · exact ⟨e, (er_ne e).symm.trans h⟩
theorem er_same (H : Hp) (st : Addr) : Same (er H st) H := fun _ _ h => (er_some h).2
theorem er_upd (H : Hp) (st : Addr) (o : HO) : er (upd H st o) st = er H st := by
  funext b
  by_cases e : b = st
  · rw [e]; exact (if_pos rfl).trans (if_pos rfl).symm
  · rw [er_ne e, er_ne e, upd_ne e]
theorem er_of {H : Hp} {st b : Addr} {o : HO} (h : b ≠ st) (e : H b = some o) : er H st b = some o := (er_ne h).trans e
theorem er_mono {H H' : Hp} {st : Addr} (s : Same H H') : Same (er H st) (er H' st) := fun b o h =>
  er_of (er_some h).1 (s _ _ (er_some h).2)
def five (c : Addr) (i l m n : Int) : HO := .lst [.ref c, .int i, .int l, .int m, .int n]
structure Sta (H : Hp) (st c : Addr) (b : Int) : Prop where
  ex : ∃ (cs : List Int) (i : Nat) (l m n : Int), H st = some (five c (i : Int) l m n) ∧ er H st c = some (.lst (cs.map V.int)) ∧ i ≤ cs.length ∧ 0 ≤ l ∧ 0 ≤ m ∧ m < 2147483647 ∧ 0 ≤ n ∧ n ≤ b ∧ b ≤ 1000000
theorem Sta.same {H H' : Hp} {st c : Addr} {b : Int} (h : Sta H st c b) (s : Same H H') : Sta H' st c b := by
  obtain ⟨cs, i, l, m, n, h1, h2, h3⟩ := h.ex
  exact ⟨cs, i, l, m, n, s _ _ h1, er_mono s _ _ h2, h3⟩
theorem Sta.le {H : Hp} {st c : Addr} {b b' : Int} (h : Sta H st c b) (hb : b ≤ b') (h9 : b' ≤ 1000000) : Sta H st c b' := by
  obtain ⟨cs, i, l, m, n, h1, h2, h3, h4, h5, h6, h7, h8, _⟩ := h.ex
  exact ⟨cs, i, l, m, n, h1, h2, h3, h4, h5, h6, h7, by omega, h9⟩
theorem Sta.ne {H : Hp} {st c p : Addr} {b : Int} (h : Sta H st c b) (hp : H p = none) : p ≠ st := by
  obtain ⟨cs, i, l, m, n, h1, _⟩ := h.ex
  exact fun e => by rw [e, h1] at hp; cases hp
theorem Sta.nec {H : Hp} {st c p : Addr} {b : Int} (h : Sta H st c b) (hp : er H st p = none) : c ≠ p := by
  obtain ⟨cs, i, l, m, n, _, h1, _⟩ := h.ex
  exact ne_of_none h1 hp
theorem Same.new {H : Hp} {p : Addr} {o : HO} (hp : H p = none) : Same H (upd H p o) := fun b u e => by
  rw [upd_ne (ne_of_none e hp)]; exact e
theorem sqUp {K : PySem.W.Frag} {H H' : Hp} {a : Addr} {xs : List V} (h : SqL K H a xs) (s : Same H H') : SqL K H' a xs := s.seq h
theorem sqEr {K : PySem.W.Frag} {H : Hp} {st a : Addr} {xs : List V} (h : SqL K (er H st) a xs) : SqL K H a xs := (er_same H st).seq h
theorem er_updp {H : Hp} {st p : Addr} {o : HO} (hp : p ≠ st) : er (upd H p o) st = upd (er H st) p o := by
  funext b
  by_cases e : b = st
  · rw [e, upd_ne (fun z => hp z.symm)]; exact (if_pos rfl).trans (if_pos rfl).symm
  · by_cases e2 : b = p
    · rw [e2, upd_same, er_ne hp, upd_same]
    · rw [upd_ne e2, er_ne e, er_ne e, upd_ne e2]
theorem er_none {H : Hp} {st p : Addr} (h : H p = none) : er H st p = none := by
  by_cases e : p = st
  · exact if_pos e
  · exact (er_ne e).trans h
/-- what a helper that draws leaves: the state, and all that stood beside it -/
structure Gs (st c : Addr) (H H' : Hp) (b : Int) : Prop where
  sta : Sta H' st c b
  same : Same (er H st) (er H' st)
theorem Gs.trans {st c : Addr} {H H1 H2 : Hp} {b b' : Int} (g : Gs st c H H1 b) (g' : Gs st c H1 H2 b') : Gs st c H H2 b' := ⟨g'.sta, g.same.trans g'.same⟩
theorem Gs.refl {st c : Addr} {H : Hp} {b : Int} (h : Sta H st c b) : Gs st c H H b := ⟨h, Same.refl _⟩
theorem Gs.of_upd {st c : Addr} {H : Hp} {o : HO} {b : Int} (h : Sta (upd H st o) st c b) : Gs st c H (upd H st o) b := ⟨h, by rw [er_upd]; exact Same.refl _⟩
theorem Gs.of_same {st c : Addr} {H H' : Hp} {b : Int} (h : Sta H st c b) (s : Same H H') : Gs st c H H' b := ⟨h.same s, er_mono s⟩
theorem Gs.le {st c : Addr} {H H' : Hp} {b b' : Int} (g : Gs st c H H' b) (hb : b ≤ b') (h9 : b' ≤ 1000000) : Gs st c H H' b' := ⟨g.sta.le hb h9, g.same⟩
/-- a thing of the helper's own changes -/
theorem Gs.set {st c p : Addr} {H H' : Hp} {b : Int} {o : HO} (g : Gs st c H H' b) (hc : er H st c ≠ none) (hp : er H st p = none) (hs : p ≠ st) : Gs st c H (upd H' p o) b := by
  refine ⟨?_, fun b u e => ?_⟩
  · obtain ⟨cs, i, l, m, n, h1, h2, h3⟩ := g.sta.ex
    refine ⟨cs, i, l, m, n, by rw [upd_ne (fun z => hs z.symm)]; exact h1, ?_, h3⟩
    rw [er_updp hs, upd_ne (fun z => hc (by rw [z]; exact hp))]
    exact h2
  · rw [er_updp hs, upd_ne (ne_of_none e hp)]
    exact g.same _ _ e
theorem Gs.new {st c p : Addr} {H H' : Hp} {b : Int} {o : HO} (g : Gs st c H H' b) (hp : H' p = none) : Gs st c H (upd H' p o) b :=
  g.trans (Gs.of_same g.sta (Same.new hp))
theorem Sta.hc {H : Hp} {st c : Addr} {b : Int} (h : Sta H st c b) : er H st c ≠ none := by
  obtain ⟨cs, i, l, m, n, _, h1, _⟩ := h.ex
  rw [h1]
  exact fun z => by cases z
theorem while_ex {c : TT} {tb : TS} {D : Ends} {σ : St} {H : Hp} (W : Nat → St → Hp → Prop) (Ex : St → Hp → Prop) {m : Nat} (h0 : W m σ H)
    (hs : ∀ nx : St → Hp → Prop, (∀ σ H, Ex σ H → nx σ H) → ∀ m σ H, W m σ H → c σ H fun b H1 => if b = true then ∃ N : St → Hp → Prop, (∀ σ' H', N σ' H' → ∃ m', m' < m ∧ W m' σ' H') ∧ tb { D with nx := N, ct := N, bk := nx } σ H1 else nx σ H1)
    (hd : ∀ σ H, Ex σ H → D.nx σ H) : tWhile c tb D σ H := ⟨W, ⟨m, h0⟩, hs D.nx hd⟩
theorem cast_heap {F : Hp → Prop} {a b : Hp} (e : a = b) (h : F b) : F a := e ▸ h
def spTake : Sp := fun vs H Q _ => ∃ (st c : Addr) (many b : Int), vs = [.ref st, .int many] ∧ Sta H st c b ∧ b + 1 ≤ 1000000 ∧ 0 < many ∧ many < 1073741824 ∧
  ∀ (r : Int) (o : HO), 0 ≤ r → r < many → Sta (upd H st o) st c (b + 1) → Q (.int r) (upd H st o)
def spFresh (K : PySem.W.Frag) : Sp := fun vs H Q _ => ∃ (a : Addr) (ns : List Int), vs = [.ref a] ∧ SqL K H a (ns.map V.int) ∧
  ∀ (st c : Addr) (H' : Hp), Same H (er H' st) → Sta H' st c 0 → Q (.ref st) H'
def spOne (K : PySem.W.Frag) : Sp := fun vs H Q _ => ∃ (st c t : Addr) (xs : List V) (b : Int), vs = [.ref st, .ref t] ∧ Sta H st c b ∧ b + 1 ≤ 1000000 ∧ SqL K (er H st) t xs ∧ 0 < xs.length ∧ xs.length < 1073741824 ∧
  ∀ (i : Nat) (v : V) (H' : Hp), xs[i]? = some v → Gs st c H H' (b + 1) → Q v H'
def spMix (K : PySem.W.Frag) : Sp := fun vs H Q _ => ∃ (st c t : Addr) (ss : List Str) (b : Int), vs = [.ref st, .ref t] ∧ Sta H st c b ∧ b + 64 ≤ 1000000 ∧ SqL K (er H st) t (ss.map V.str) ∧ ss.length ≤ 64 ∧ (∀ s ∈ ss, PyData.strOk s = true) ∧
  ∀ (p : Addr) (ys : List Str) (H' : Hp), ys.Perm ss → Gs st c H H' (b + 64) → er H' st p = some (.lst (ys.map V.str)) → er H st p = none → Q (.ref p) H'
theorem ok_take (T : Txt K mg A) : FnOk P w K mg base CX0 1 A.a__law_take A.d__law_take P__law_take spTake := by
  refine T.f__law_take.ok sc__law_take (fun vs H Q E h => ?_) (fun cdv A' outer s H vs Q E hr h => ?_)
  · obtain ⟨st, c, many, b, rfl, _⟩ := h
    rfl
  · obtain ⟨st, c, many, b, rfl, S, hb1, hm0, hm1, k⟩ := h
    obtain ⟨cs, i, l, m, n, h1, h2, h3, h4, h5, h6, h7, h8, h9⟩ := S.ex
    refine ⟨_, (pss_cons (ps_asg (pe_op op_add (pe_ix ix_list (pv 0) pe_int (fun _ _ => rfl)) pe_int) (pg_sub (pv 0) pe_int set_list))
 (pss_cons (ps_while PassesOwn.never (PW.pt (pw_and (pt_cmpR op_eq (pe_ix ix_list (pv 0) pe_int (fun _ _ => rfl)) pe_int (nomark _)) (pw_and1 (pt_cmpR op_lt (pe_ix ix_list (pv 0) pe_int (fun _ _ => rfl)) (pe_callB call_len_seq (by rfl) T.len PySem.boot_len (pa_cons (pe_ix ix_list (pv 0) pe_int (fun _ _ => rfl)) pa_nil)) (nomark _)))))
 (pss_cons (ps_set (i := 2) sc__law_take.nd rfl (Or.inl rfl) (pe_callB call_abs (by rfl) T.abs (by decide +kernel) (pa_cons (pe_ix ix_list (pe_ix ix_list (pv 0) pe_int (fun _ _ => rfl)) (pe_ix ix_list (pv 0) pe_int (fun _ _ => rfl)) (fun _ _ => rfl)) pa_nil)))
 (pss_cons (ps_asg (pe_op op_add (pe_ix ix_list (pv 0) pe_int (fun _ _ => rfl)) pe_int) (pg_sub (pv 0) pe_int set_list))
 (pss_one (ps_if (pt_cmpR op_ge (pv 2) (pe_op op_pow pe_int pe_int) (nomark _))
 (pss_one (ps_asg (pv 2) (pg_sub (pv 0) pe_int set_list)))
 (pss_one (ps_asg (pe_op op_mod (pe_callTy call_int1 (by rfl) T.int (by decide +kernel) (pa_cons (pe_op op_add (pe_op op_add (pe_op op_mul (pe_ix ix_list (pv 0) pe_int (fun _ _ => rfl)) pe_int) (pv 2)) pe_int) pa_nil)) pe_int) (pg_sub (pv 0) pe_int set_list))))))))
 (pss_cons (ps_if (pt_cmpR op_gt (pe_ix ix_list (pv 0) pe_int (fun _ _ => rfl)) pe_int (nomark _))
 (pss_cons (ps_set (i := 3) sc__law_take.nd rfl (Or.inl rfl) (pe_op op_mod (pe_callTy call_int1 (by rfl) T.int (by decide +kernel) (pa_cons (pe_ix ix_list (pv 0) pe_int (fun _ _ => rfl)) pa_nil)) (pv 1)))
 (pss_cons (ps_asg (pe_op op_fdiv (pe_ix ix_list (pv 0) pe_int (fun _ _ => rfl)) (pv 1)) (pg_sub (pv 0) pe_int set_list))
 (pss_one (ps_ret (pv 3)))))
 pss_nil)
 (pss_cons (ps_set (i := 4) sc__law_take.nd rfl (Or.inl rfl) (pe_op op_mod (pe_callTy call_int1 (by rfl) T.int (by decide +kernel) (pa_cons (pe_op op_pow (pe_op op_add (pe_op op_add (pe_ix ix_list (pv 0) pe_int (fun _ _ => rfl)) (pe_op op_mul pe_int (pe_ix ix_list (pv 0) pe_int (fun _ _ => rfl)))) pe_int) pe_int) pa_nil)) pe_int))
 (pss_cons (ps_set (i := 4) sc__law_take.nd rfl (Or.inl rfl) (pe_op op_mod (pe_callTy call_int1 (by rfl) T.int (by decide +kernel) (pa_cons (pe_op op_pow (pe_op op_add (pv 4) (pe_op op_mul pe_int (pe_ix ix_list (pv 0) pe_int (fun _ _ => rfl)))) pe_int) pa_nil)) pe_int))
 (pss_one (ps_ret (pe_op op_mod (pe_callTy call_int1 (by rfl) T.int (by decide +kernel) (pa_cons (pe_op op_fdiv (pv 4) pe_int) pa_nil)) (pv 1))))))))), ?_⟩
    -- state[4] = state[4] + 1
    refine ⟨_, rfl, _, _, _, _, rfl, rfl, SqL.of h1, rfl, _, _, rfl, rfl, _, rfl, _, _, _, _, rfl, rfl, h1, rfl, ?_⟩
    refine while_ex (fun mm σ' H' => ∃ (i : Nat) (l m : Int) (v : Option V), σ' = [some (.ref st), some (.int many), v, none, none] ∧ H' = upd H st (five c (i : Int) l m (n + 1)) ∧ i ≤ cs.length ∧ 0 ≤ l ∧ 0 ≤ m ∧ m < 2147483647 ∧ mm = cs.length - i)
      (fun σ' H' => ∃ (i : Nat) (l m : Int) (v : Option V), σ' = [some (.ref st), some (.int many), v, none, none] ∧ H' = upd H st (five c (i : Int) l m (n + 1)) ∧ i ≤ cs.length ∧ 0 ≤ l ∧ 0 ≤ m ∧ m < 2147483647)
      ⟨i, l, m, none, rfl, rfl, h3, h4, h5, h6, rfl⟩ (fun nx hnx => ?_) ?_
    rintro mm σ' H' ⟨i, l, m, v, rfl, rfl, h3, h4, h5, h6, rfl⟩
    have hu : upd H st (five c (i : Int) l m (n + 1)) st = some (five c (i : Int) l m (n + 1)) := upd_same
    have hc : SqL K (upd H st (five c (i : Int) l m (n + 1))) c (cs.map V.int) := SqL.of ((er_same _ st) _ _ (by rw [er_upd]; exact h2))
    -- the test
    refine ⟨_, rfl, _, _, _, _, rfl, rfl, SqL.of hu, rfl, rfl, _, rfl, ?_⟩
    refine ite2 (fun hl => ?_) (fun hl => ?_)
    · have el : l = 0 := by
        have q := of_decide_eq_true hl
        cases q
        rfl
      subst el
      refine ⟨_, rfl, _, _, _, _, rfl, rfl, SqL.of hu, rfl, _, rfl, _, _, _, _, rfl, rfl, SqL.of hu, rfl, _, _, rfl, .inl hc, _, _, rfl, rfl, _, rfl, ?_⟩
      refine ite2 (fun hi => ?_) (fun hi => ?_)
      · have hi' : i < cs.length := by
          have q := of_decide_eq_true hi
          rw [List.length_map] at q
          omega
        refine ⟨_, fun _ _ z => z, ?_⟩
        -- cell = abs(state[0][state[1]]); state[1] = state[1] + 1
        refine ⟨_, rfl, _, _, _, _, rfl, rfl, SqL.of hu, rfl, _, rfl, _, _, _, _, rfl, rfl, SqL.of hu, rfl, _, _, _, _, rfl, rfl, hc, atI_nat (by rw [List.getElem?_map, List.getElem?_eq_getElem hi']; rfl), _, rfl, ?_⟩
        refine ⟨_, rfl, _, _, _, _, rfl, rfl, SqL.of hu, rfl, _, _, rfl, rfl, _, rfl, _, _, _, _, rfl, rfl, hu, rfl, ?_⟩
        have e2 : upd (upd H st (five c (i : Int) 0 m (n + 1))) st (five c ((i : Int) + 1) 0 m (n + 1)) = upd H st (five c (((i + 1 : Nat)) : Int) 0 m (n + 1)) := upd_upd
        refine cast_heap e2 ?_
        have hu2 : upd H st (five c (((i + 1 : Nat)) : Int) 0 m (n + 1)) st = some (five c (((i + 1 : Nat)) : Int) 0 m (n + 1)) := upd_same
        generalize hcell : (if cs[i] < 0 then -cs[i] else cs[i]) = cell
        have hc0 : 0 ≤ cell := by
          rw [← hcell]
          split <;> omega
        -- if cell >= 10 ** 18
        refine ⟨_, rfl, _, _, rfl, rfl, ⟨by decide, by decide, by decide⟩, _, _, rfl, rfl, _, rfl, ?_⟩
        refine ite2 (fun hg => ?_) (fun hg => ?_)
        · refine ⟨_, rfl, _, rfl, _, _, _, _, rfl, rfl, hu2, rfl, ?_⟩
          exact ⟨cs.length - (i + 1), by omega, i + 1, cell, m, _, rfl, upd_upd, hi', hc0, h5, h6, rfl⟩
        · have hlt : cell < 10 ^ 18 := by
            refine Int.not_le.mp fun q => hg (decide_eq_true ?_)
            exact q
          refine ⟨_, rfl, _, _, _, _, rfl, rfl, SqL.of hu2, rfl, _, _, rfl, rfl, .inl ⟨by omega, by omega⟩, _, rfl, _, _, rfl, rfl, _, _, rfl, rfl, .inl ⟨_, rfl, _, _, rfl, rfl, (by show (0 : Int) < 2147483647; decide), _, rfl, _, _, _, _, rfl, rfl, hu2, rfl, ?_⟩⟩
          refine ⟨cs.length - (i + 1), by omega, i + 1, 0, (m * 131 + cell + 1) % 2147483647, _, rfl, upd_upd, hi', Int.le_refl _, Int.emod_nonneg _ (by decide), Int.emod_lt_of_pos _ (by decide), rfl⟩
      · exact hnx _ _ ⟨i, 0, m, v, rfl, rfl, h3, h4, h5, h6⟩
    · exact hnx _ _ ⟨i, l, m, v, rfl, rfl, h3, h4, h5, h6⟩
    -- behind the loop
    rintro σ' H' ⟨i, l, m, v, rfl, rfl, h3, h4, h5, h6⟩
    have hu : upd H st (five c (i : Int) l m (n + 1)) st = some (five c (i : Int) l m (n + 1)) := upd_same
    have mk : ∀ (i : Nat) (l m : Int), i ≤ cs.length → 0 ≤ l → 0 ≤ m → m < 2147483647 → Sta (upd H st (five c (i : Int) l m (n + 1))) st c (b + 1) := fun i l m h3 h4 h5 h6 =>
      ⟨cs, i, l, m, n + 1, upd_same, by rw [er_upd]; exact h2, h3, h4, h5, h6, by omega, by omega, hb1⟩
    refine ⟨_, rfl, _, _, _, _, rfl, rfl, SqL.of hu, rfl, _, _, rfl, rfl, _, rfl, ?_⟩
    refine ite2 (fun hl => ?_) (fun hl => ?_)
    · refine ⟨_, rfl, _, _, _, _, rfl, rfl, SqL.of hu, rfl, .inl ⟨_, rfl, _, rfl, _, _, rfl, rfl, hm0, ?_⟩⟩
      refine ⟨_, rfl, _, _, _, _, rfl, rfl, SqL.of hu, rfl, _, rfl, _, _, rfl, rfl, ⟨hm0, by omega⟩, _, rfl, _, _, _, _, rfl, rfl, hu, rfl, ?_⟩
      refine cast_heap (b := upd H st (five c (i : Int) (l / many) m (n + 1))) upd_upd ?_
      refine ⟨_, rfl, ?_⟩
      exact k _ _ (Int.emod_nonneg _ (by omega)) (Int.emod_lt_of_pos _ hm0) (mk i (l / many) m h3 (Int.ediv_nonneg h4 (by omega)) h5 h6)
    · have hp : ∀ x : Int, 0 ≤ x → x < 10000000000 → (0 : Int) ≤ 3 ∧ (3 : Int) ≤ 1000000 ∧ x.natAbs < 2 ^ 64 := fun x a b => ⟨by omega, by omega, by omega⟩
      walk_at "rd"
      exact k _ _ (Int.emod_nonneg _ (by omega)) (Int.emod_lt_of_pos _ hm0) (mk i l m h3 h4 h5 h6)
theorem ok_fresh (T : Txt K mg A) : FnOk P w K mg base CX0 1 A.a__law_fresh A.d__law_fresh P__law_fresh (spFresh K) := by
  refine T.f__law_fresh.ok sc__law_fresh (fun vs H Q E h => ?_) (fun cdv A' outer s H vs Q E hr h => ?_)
  · obtain ⟨a, ns, rfl, _⟩ := h
    rfl
  · obtain ⟨a, ns, rfl, hS, k⟩ := h
    refine ⟨_, (pss_one (ps_ret (pe_lst (pa_cons (pe_callTy call_list_of (by rfl) T.list (by decide +kernel) (pa_cons (pe_slice sl_list (pv 0) po_none (po_some pe_int)) pa_nil)) (pa_cons pe_int (pa_cons pe_int (pa_cons pe_int (pa_cons pe_int pa_nil)))))))), ?_⟩
    refine ⟨_, rfl, _, rfl, _, _, rfl, hS, fun p hp => ⟨_, _, rfl, .inl (SqL.of upd_same), fun c hc => ⟨by show 5 ≤ sizeLine; decide, fun st hst => ?_⟩⟩⟩
    have s1 : Same H (upd (upd H p (.lst (cutV (ns.map V.int) none (some 40)))) c (.lst (cutV (ns.map V.int) none (some 40)))) := (Same.new hp).trans (Same.new hc)
    have hst0 : H st = none := s1.free hst
    have ec : cutV (ns.map V.int) none (some 40) = (ns.take 40).map V.int := by
      unfold cutV
      rw [HT.sIx_none, show ((40 : Int)) = ((40 : Nat) : Int) from rfl, HT.sIx_nat]
      rw [List.drop_zero, Nat.sub_zero, List.map_take, List.length_map]
      by_cases h40 : 40 ≤ ns.length
      · rw [Nat.min_eq_left h40]
      · rw [Nat.min_eq_right (by omega), List.take_of_length_le (by simp), List.take_of_length_le (by simp; omega)]
    have hcs : c ≠ st := fun e => by rw [← e, upd_same] at hst; cases hst
    refine k st c _ (fun b o e => er_of (fun z => by rw [z, hst0] at e; cases e) (by rw [upd_ne (fun z => by rw [z, hst0] at e; cases e)]; exact s1 _ _ e)) ?_
    refine ⟨ns.take 40, 0, 0, 0, 0, upd_same, er_of hcs ?_, Nat.zero_le _, Int.le_refl _, Int.le_refl _, by decide, Int.le_refl _, Int.le_refl _, by decide⟩
    rw [upd_ne hcs, upd_same, ec]
theorem ok_one (T : Txt K mg A) : FnOk P w K mg base CX0 2 A.a__law_one A.d__law_one P__law_one (spOne K) := by
  have G__law_take : FnOk P w K mg base CX0 1 A.a__law_take A.d__law_take P__law_take spTake := ok_take T
  refine T.f__law_one.ok sc__law_one (fun vs H Q E h => ?_) (fun cdv A' outer s H vs Q E hr h => ?_)
  · obtain ⟨st, c, t, xs, b, rfl, _⟩ := h
    rfl
  · obtain ⟨st, c, t, xs, b, rfl, S, hb, hS, h0, h1, k⟩ := h
    refine ⟨_, (pss_one (ps_ret (pe_ix ix_list (pv 1) (pe_call G__law_take (hr.mono (by omega)) (by rfl) T.g__law_take T.f__law_take.kp T.b__law_take .nil pass0 (pa_cons (pv 0) (pa_cons (pe_callB call_len_seq (by rfl) T.len PySem.boot_len (pa_cons (pv 1) pa_nil)) pa_nil))) (fun _ _ => rfl)))), ?_⟩
    refine ⟨_, rfl, _, rfl, _, rfl, _, _, rfl, .inl (sqEr hS), st, c, _, b, rfl, S, hb, by omega, by omega, fun r o hr0 hr1 S' => ?_⟩
    have g := Gs.of_upd S'
    have hi : r.toNat < xs.length := by omega
    refine ⟨_, _, _, _, rfl, rfl, sqEr (sqUp hS g.same), at_of (j := r.toNat) (by omega) (List.getElem?_eq_getElem hi), ?_⟩
    exact k r.toNat _ _ (List.getElem?_eq_getElem hi) g
end
end K5
set_option Elab.async false
set_option linter.all false
set_option maxRecDepth 100000
set_option maxHeartbeats 4000000
namespace K5
open PySem L2
local macro_rules | `(tactic| walk_at "rd1") => `(tactic| first
  | refine ⟨_, _, rfl, rfl, ?_⟩
  | refine ⟨_, _, _, _, rfl, rfl, SqL.of (by assumption), rfl, ?_⟩
  | refine ⟨_, _, _, _, rfl, rfl, (by assumption), rfl, ?_⟩
  | refine .inl ⟨_, rfl, ?_⟩
  | refine ⟨_, rfl, ?_⟩
  | refine ⟨(by unfold CMul; omega), ?_⟩
  | refine ⟨(by unfold CPow; omega), ?_⟩
  | refine ⟨(by (try dsimp only); omega), ?_⟩
  | refine ⟨(by unfold CDiv; omega), ?_⟩
  | fail "rd1")
local macro_rules | `(tactic| walk_at "rd") => `(tactic| repeat' (walk_at "rd1"))
section
variable {P : Program} {w : World} {K : PySem.W.Frag} {mg : Str → Option Value} {base : Heap} {A : Ad}
theorem stUp {H H' : Hp} {a : Addr} {xs : List V} (h : SqT K H a xs) (s : Same H H') : SqT K H' a xs := by
  rcases h with (h | ⟨o, h⟩) | h
  · exact .inl (.inl (s _ _ h))
  · exact .inl (.inr ⟨o, s _ _ h⟩)
  · exact .inr h
theorem map_erase {α β : Type} (g : α → β) :
    ∀ (l : List α) (j : Nat), (l.eraseIdx j).map g = (l.map g).eraseIdx j
  | [], _ => rfl
  | _ :: _, 0 => rfl
  | a :: l, j + 1 => congrArg (g a :: ·) (map_erase g l j)
theorem erase_perm {α : Type} : ∀ {ls : List α} {i : Nat} {y : α}, ls[i]? = some y → (y :: ls.eraseIdx i).Perm ls
  | a :: l, 0, y, h => by
    have e : a = y := Option.some.inj h
    rw [e]
    exact List.Perm.refl _
  | a :: l, i + 1, y, h => (List.Perm.swap a y (l.eraseIdx i)).trans ((erase_perm (ls := l) (i := i) (y := y) h).cons a)
  | [], i, y, h => by simp at h
theorem seqIx {r : Int} {n : Nat} (h0 : 0 ≤ r) (h1 : r < (n : Int)) : seqIndex? r n = some r.toNat := by
  unfold seqIndex?
  have e : ¬ r < 0 := by omega
  simp only [e, if_false]
  have : ((0 : Int) ≤ r && r < (n : Int)) = true := by simp [h0, h1]
  simp [h0, h1]
mutual
theorem dpSame {H H' : Hp} (s : Same H H') : ∀ {v : V} {d : PyData}, Dp K H v d → Dp K H' v d
  | _, _, .non => .non
  | _, _, .bl b => .bl b
  | _, _, .int i => .int i
  | _, _, .str x => .str x
  | _, _, .lst h q => .lst (s.seq h) (dpAllSame s q)
  | _, _, .tup h q => .tup (stUp h s) (dpAllSame s q)
theorem dpAllSame {H H' : Hp} (s : Same H H') : ∀ {vs : List V} {ds : List PyData}, DpAll K H vs ds → DpAll K H' vs ds
  | _, _, .nil => .nil
  | _, _, .cons a b => .cons (dpSame s a) (dpAllSame s b)
end
theorem dpStrs {H : Hp} : ∀ ss : List Str, DpAll K H (ss.map V.str) (ss.map PyData.str)
  | [] => .nil
  | s :: ss => .cons (.str s) (dpStrs ss)
theorem strs_lay : ∀ {ss : List Str}, (∀ s ∈ ss, PyData.strOk s = true) → PyData.canLayAll0 (ss.map PyData.str) = true
  | [], _ => by simp [PyData.canLayAll0]
  | s :: ss, h => by
    simp only [List.map_cons, PyData.canLayAll0, PyData.canLay0, h s (List.mem_cons_self ..), Bool.true_and]
    exact strs_lay fun t ht => h t (List.mem_cons_of_mem _ ht)
theorem strs_depth : ∀ ss : List Str, PyData.depthAll (ss.map PyData.str) = 0
  | [] => by simp [PyData.depthAll]
  | s :: ss => by simp only [List.map_cons, PyData.depthAll, PyData.depth, strs_depth ss]; rfl
theorem strs_shaped {ss : List Str} (h : ∀ s ∈ ss, PyData.strOk s = true) : SeqAt.shaped (.list (ss.map PyData.str)) = true := by
  show (PyData.canLay0 (.list (ss.map PyData.str)) && decide (PyData.depth (.list (ss.map PyData.str)) ≤ 64)) = true
  rw [Bool.and_eq_true]
  refine ⟨by simp only [PyData.canLay0]; exact strs_lay h, decide_eq_true ?_⟩
  simp only [PyData.depth, strs_depth]
  decide
theorem eqv_strs_nil : ∀ ss : List Str, PyData.eqv (.list (ss.map PyData.str)) (.list []) = ss.isEmpty
  | [] => by simp [PyData.eqv, PyData.eqvAll]
  | s :: ss => by simp [PyData.eqv, PyData.eqvAll]
theorem perm_move {α : Type} {fs ls : List α} {i : Nat} {y : α} (h : ls[i]? = some y) : (fs ++ [y] ++ ls.eraseIdx i).Perm (fs ++ ls) := by
  rw [List.append_assoc]
  exact List.Perm.append_left fs (erase_perm h)
theorem ok_mix (T : Txt K mg A) : FnOk P w K mg base CX0 2 A.a__law_mix A.d__law_mix P__law_mix (spMix K) := by
  have G__law_take : FnOk P w K mg base CX0 1 A.a__law_take A.d__law_take P__law_take spTake := ok_take T
  refine T.f__law_mix.ok sc__law_mix (fun vs H Q E h => ?_) (fun cdv A' outer s H vs Q E hr h => ?_)
  · obtain ⟨st, c, t, ss, b, rfl, _⟩ := h
    rfl
  · obtain ⟨st, c, t, ss, b, rfl, S, hb, hS, hl, hok, k⟩ := h
    refine ⟨_, (pss_cons (ps_par (i := 2) (j := 3) (by rfl) sc__law_mix.nd rfl rfl (by decide) rfl rfl (pa_cons (pe_callTy call_list_of (by rfl) T.list (by decide +kernel) (pa_cons (pv 1) pa_nil)) (pa_cons (pe_lst pa_nil) pa_nil)) (by rfl))
 (pss_cons (ps_while PassesOwn.never (pt_cmpR (op_neD hr.units) (pv 2) (pe_lst pa_nil) (nomark _))
 (pss_one (ps_expr (pe_bm PySem.F.plainAttrs_list PySem.F.slot_list_append PySem.F.type_list_append mt_append (pv 3) (pa_cons (pe_bm PySem.F.plainAttrs_list PySem.F.slot_list_pop PySem.F.type_list_pop mt_popAt (pv 2) (pa_cons (pe_call G__law_take (hr.mono (by omega)) (by rfl) T.g__law_take T.f__law_take.kp T.b__law_take .nil pass0 (pa_cons (pv 0) (pa_cons (pe_callB call_len_seq (by rfl) T.len PySem.boot_len (pa_cons (pv 2) pa_nil)) pa_nil))) pa_nil)) pa_nil)))))
 (pss_one (ps_ret (pv 3))))), ?_⟩
    refine ⟨_, rfl, _, _, rfl, .inl (sqEr hS), fun left nl => ⟨Nat.zero_le _, fun fnd nf => ⟨_, _, rfl, ?_⟩⟩⟩
    have nls : left ≠ st := S.ne nl
    have nf0 : H fnd = none := (Same.new nl).free nf
    have nfs : fnd ≠ st := S.ne nf0
    have nlf : left ≠ fnd := ne_of_none upd_same nf
    have el : er H st left = none := er_none nl
    have ef : er H st fnd = none := er_none nf0
    have g0 : Gs st c H (upd (upd H left (.lst (ss.map V.str))) fnd (.lst [])) b := (Gs.refl S).set S.hc el nls |>.set S.hc ef nfs
    refine while_ex (fun mm σ' H' => ∃ (ls fs : List Str), σ' = [some (.ref st), some (.ref t), some (.ref left), some (.ref fnd)] ∧ H' left = some (.lst (ls.map V.str)) ∧ H' fnd = some (.lst (fs.map V.str)) ∧ (fs ++ ls).Perm ss ∧ Gs st c H H' (b + (fs.length : Int)) ∧ mm = ls.length)
      (fun σ' H' => ∃ (fs : List Str), σ' = [some (.ref st), some (.ref t), some (.ref left), some (.ref fnd)] ∧ H' fnd = some (.lst (fs.map V.str)) ∧ fs.Perm ss ∧ Gs st c H H' (b + (fs.length : Int)))
      ⟨ss, [], rfl, by rw [upd_ne nlf, upd_same], by rw [upd_same]; rfl, List.Perm.refl _, by simpa using g0, rfl⟩ (fun nx hnx => ?_) ?_
    · rintro mm σ' H' ⟨ls, fs, rfl, h1, h2, hp, g, rfl⟩
      have hpl : fs.length + ls.length = ss.length := by rw [← List.length_append]; exact hp.length_eq
      have hls : ∀ s ∈ ls, PyData.strOk s = true := fun s hs => hok s (hp.mem_iff.mp (List.mem_append_right _ hs))
      refine ⟨_, rfl, Nat.zero_le _, fun e he => ⟨.list (ls.map PyData.str), .list [], ?_⟩⟩
      have h1' : upd H' e (.lst []) left = some (.lst (ls.map V.str)) := Same.new he _ _ h1
      have h2' : upd H' e (.lst []) fnd = some (.lst (fs.map V.str)) := Same.new he _ _ h2
      have g' : Gs st c H (upd H' e (.lst [])) (b + (fs.length : Int)) := g.new he
      refine ⟨.lst (SqL.of h1') (dpStrs ls), .lst (SqL.of upd_same) .nil, strs_shaped hls, by decide +kernel, _, rfl, ?_⟩
      rw [eqv_strs_nil]
      refine ite2 (fun hne => ?_) (fun hne => ?_)
      · have hpos : 0 < ls.length := by
          cases ls with
          | nil => cases hne
          | cons _ _ => exact Nat.succ_pos _
        refine ⟨_, fun _ _ z => z, ?_⟩
        refine ⟨_, rfl, .inl ⟨rfl, _, SqL.of h2'⟩, _, rfl, .inl ⟨rfl, _, SqL.of h1'⟩, _, rfl, _, rfl, _, _, rfl, .inl (SqL.of h1'), st, c, _, _, rfl, g'.sta, by omega, by rw [List.length_map]; omega, by rw [List.length_map]; omega, fun r o hr0 hr1 S' => ?_⟩
        rw [List.length_map] at hr1
        have g2 : Gs st c H (upd (upd H' e (.lst [])) st o) (b + (fs.length : Int) + 1) := g'.trans (Gs.of_upd S')
        have h1'' : upd (upd H' e (.lst [])) st o left = some (.lst (ls.map V.str)) := by rw [upd_ne nls]; exact h1'
        have h2'' : upd (upd H' e (.lst [])) st o fnd = some (.lst (fs.map V.str)) := by rw [upd_ne nfs]; exact h2'
        have hi : r.toNat < ls.length := by omega
        have hy : ls[r.toNat]? = some ls[r.toNat] := List.getElem?_eq_getElem hi
        refine ⟨_, _, _, r.toNat, _, rfl, rfl, h1'', by omega, by omega, ?_, by rw [List.getElem?_map, hy]; rfl, ?_⟩
        · rw [List.length_map]
          exact seqIx hr0 hr1
        · refine ⟨_, _, _, rfl, rfl, (by rw [upd_ne nlf.symm]; exact h2''), by rw [List.length_map]; exact Nat.lt_of_le_of_lt (show fs.length ≤ 64 by omega) (by decide), ?_⟩
          refine ⟨(ls.eraseIdx r.toNat).length, ?_, ls.eraseIdx r.toNat, fs ++ [ls[r.toNat]], rfl, ?_, ?_, (perm_move hy).trans hp, ?_, rfl⟩
          · rw [List.length_eraseIdx_of_lt hi]; omega
          · rw [upd_ne nlf, upd_same, map_erase]
          · rw [upd_same, List.map_append]; rfl
          · rw [List.length_append]
            refine Gs.le ((g2.set S.hc el nls).set S.hc ef nfs) (by simp; omega) (by simp; omega)
      · have hnil : ls = [] := by
          cases ls with
          | nil => rfl
          | cons _ _ => exact absurd rfl hne
        subst hnil
        exact hnx _ _ ⟨fs, rfl, h2', by rw [List.append_nil] at hp; exact hp, g'⟩
    · rintro σ' H' ⟨fs, rfl, h2, hp, g⟩
      refine ⟨_, rfl, k fnd fs H' hp (g.le (by have := hp.length_eq; omega) hb) (er_of nfs h2) ef⟩
end
end K5
set_option Elab.async false
set_option linter.all false
set_option maxRecDepth 100000
set_option maxHeartbeats 4000000
namespace K5
open PySem L2
local macro_rules | `(tactic| walk_at "rd1") => `(tactic| first
  | refine ⟨_, _, rfl, rfl, ?_⟩
  | refine ⟨_, _, _, _, rfl, rfl, SqL.of (by assumption), rfl, ?_⟩
  | refine ⟨_, _, _, _, rfl, rfl, (by assumption), rfl, ?_⟩
  | refine .inl ⟨_, rfl, ?_⟩
  | refine ⟨_, rfl, ?_⟩
  | refine ⟨(by unfold CMul; omega), ?_⟩
  | refine ⟨(by unfold CPow; omega), ?_⟩
  | refine ⟨(by (try dsimp only); omega), ?_⟩
  | refine ⟨(by unfold CDiv; omega), ?_⟩
  | fail "rd1")
local macro_rules | `(tactic| walk_at "rd") => `(tactic| repeat' (walk_at "rd1"))
section
variable {P : Program} {w : World} {K : PySem.W.Frag} {mg : Str → Option Value} {base : Heap} {A : Ad}
def pool1 : List Str := ["a", "b", "rice", "fish", "start", "done", "wish", "zz"]
def pool2 : List Str := ["station", "clocks", "abcdefgh", "meal", "go", "wait", "cloc", "on"]
def pool : List Str := ["a", "b", "rice", "fish", "start", "done", "wish", "zz", "station", "clocks", "abcdefgh", "meal", "go", "wait", "cloc", "on"]
theorem pool_nodup : pool.Nodup := by decide +kernel
theorem pool_ok : ∀ s ∈ pool, PyData.strOk s = true := by decide +kernel
def spNames (K : PySem.W.Frag) : Sp := fun vs H Q _ => ∃ (st c : Addr) (b : Int) (n : Nat), vs = [.ref st, .int n] ∧ Sta H st c b ∧ b + 64 ≤ 1000000 ∧ n ≤ 16 ∧
  ∀ (p : Addr) (ys : List Str) (H' : Hp), ys.Nodup → (∀ s ∈ ys, s ∈ pool) → ys.length = n → Gs st c H H' (b + 64) → er H' st p = some (.lst (ys.map V.str)) → er H st p = none → Q (.ref p) H'
theorem ok_names (T : Txt K mg A) : FnOk P w K mg base CX0 3 A.a__law_names A.d__law_names P__law_names (spNames K) := by
  have G__law_mix : FnOk P w K mg base CX0 2 A.a__law_mix A.d__law_mix P__law_mix (spMix K) := ok_mix T
  refine T.f__law_names.ok sc__law_names (fun vs H Q E h => ?_) (fun cdv A' outer s H vs Q E hr h => ?_)
  · obtain ⟨st, c, b, n, rfl, _⟩ := h
    rfl
  · obtain ⟨st, c, b, n, rfl, S, hb, hn, k⟩ := h
    refine ⟨_, (pss_cons (ps_set (i := 2) sc__law_names.nd rfl (Or.inl rfl) (pe_lst (pa_cons pe_str (pa_cons pe_str (pa_cons pe_str (pa_cons pe_str (pa_cons pe_str (pa_cons pe_str (pa_cons pe_str (pa_cons pe_str pa_nil))))))))))
 (pss_one (ps_ret (pe_slice sl_list (pe_call G__law_mix (hr.mono (by omega)) (by rfl) T.g__law_mix T.f__law_mix.kp T.b__law_mix .nil pass0 (pa_cons (pv 0) (pa_cons (pe_op op_cat (pv 2) (pe_lst (pa_cons pe_str (pa_cons pe_str (pa_cons pe_str (pa_cons pe_str (pa_cons pe_str (pa_cons pe_str (pa_cons pe_str (pa_cons pe_str pa_nil)))))))))) pa_nil))) po_none (po_some (pv 1)))))), ?_⟩
    refine ⟨by show 8 ≤ sizeLine; decide, fun p hp => ?_⟩
    refine ⟨_, rfl, _, rfl, by show 8 ≤ sizeLine; decide, fun q hq => ?_⟩
    have g1 : Gs st c H (upd (upd H p (.lst (pool1.map V.str))) q (.lst (pool2.map V.str))) b := ((Gs.refl S).new hp).new hq
    have h1 : upd (upd H p (.lst (pool1.map V.str))) q (.lst (pool2.map V.str)) p = some (.lst (pool1.map V.str)) := by
      rw [upd_ne (ne_of_none upd_same hq), upd_same]
    refine ⟨_, _, _, _, rfl, rfl, h1, upd_same, by show 16 ≤ sizeLine; decide, fun t ht => ?_⟩
    have nt := g1.sta.ne ht
    have g0 : Gs st c H (upd (upd (upd H p (.lst (pool1.map V.str))) q (.lst (pool2.map V.str))) t (.lst (pool1.map V.str ++ pool2.map V.str))) b := g1.new ht
    refine ⟨st, c, t, pool, b, rfl, g0.sta, hb, SqL.of (er_of nt upd_same), by decide, pool_ok, fun l ys H' hperm g hl hl0 => ?_⟩
    refine ⟨_, rfl, _, rfl, _, _, rfl, SqL.of ((er_same _ _) _ _ hl), fun d hd => ?_⟩
    have hlen : ys.length = 16 := by rw [hperm.length_eq]; rfl
    have ec : cutV (ys.map V.str) none (some (n : Int)) = (ys.take n).map V.str := by
      unfold cutV
      rw [HT.sIx_none, HT.sIx_nat, List.drop_zero, Nat.sub_zero, List.map_take, List.length_map, hlen, Nat.min_eq_left hn]
    have g3 : Gs st c H (upd H' d (.lst (cutV (ys.map V.str) none (some (n : Int))))) (b + 64) := (g0.trans g).new hd
    have hnd : ys.Nodup := hperm.nodup_iff.mpr pool_nodup
    refine k d (ys.take n) _ (hnd.sublist (List.take_sublist _ _)) (fun s hs => hperm.mem_iff.mp (List.mem_of_mem_take hs)) (by rw [List.length_take]; omega) g3 (er_of (g.sta.ne hd) ?_) ?_
    · rw [upd_same, ec]
    · have e0 := er_none (st := st) hd
      exact ((g0.trans g).same).free e0
end
end K5
set_option Elab.async false
set_option linter.all false
set_option maxRecDepth 100000
set_option maxHeartbeats 4000000
namespace K5
open PySem L2
local macro_rules | `(tactic| walk_at "rd1") => `(tactic| first
  | refine ⟨_, _, rfl, rfl, ?_⟩
  | refine ⟨_, _, _, _, rfl, rfl, SqL.of (by assumption), rfl, ?_⟩
  | refine ⟨_, _, _, _, rfl, rfl, (by assumption), rfl, ?_⟩
  | refine .inl ⟨_, rfl, ?_⟩
  | refine ⟨_, rfl, ?_⟩
  | refine ⟨(by unfold CMul; omega), ?_⟩
  | refine ⟨(by unfold CPow; omega), ?_⟩
  | refine ⟨(by (try dsimp only); omega), ?_⟩
  | refine ⟨(by unfold CDiv; omega), ?_⟩
  | fail "rd1")
local macro_rules | `(tactic| walk_at "rd") => `(tactic| repeat' (walk_at "rd1"))
section
variable {P : Program} {w : World} {K : PySem.W.Frag} {mg : Str → Option Value} {base : Heap} {A : Ad}
theorem tyL {H : Hp} {a : Addr} {xs : List V} (h : SqL K H a xs) : TyX K H (.ref a) (.type "list") := by
  rcases h with (h | ⟨o, h⟩) | ⟨o, _, _, h1, h2, _⟩
  · exact .base (.lst h)
  · exact .base (.frz h)
  · exact .kList h1 h2
theorem tyT {H : Hp} {a : Addr} {xs : List V} (h : SqT K H a xs) : TyX K H (.ref a) (.type "tuple") := by
  rcases h with (h | ⟨o, h⟩) | ⟨o, _, _, h1, h2, _⟩
  · exact .base (.tup h)
  · exact .fTuple h
  · exact .kTuple h1 h2
theorem kit2 {K : PySem.W.Frag} {a b c : String} {r s : Bool} (h : kitB a b = some r) (k : kitB a c = some s) : PySem.W.kitAny K (.type a) [.type b, .type c] = some (r || s) := by
  cases r with
  | true => exact kitAny_cons (kit_ty h) (fun z => nomatch z) (fun _ => rfl)
  | false => 
    refine kitAny_cons (kit_ty h) (fun _ => ?_) (fun z => nomatch z)
    cases s with
    | true => exact kitAny_cons (kit_ty k) (fun z => nomatch z) (fun _ => rfl)
    | false => exact kitAny_cons (kit_ty k) (fun _ => kitAny_nil) (fun z => nomatch z)
theorem kit3 {K : PySem.W.Frag} {a b c d : String} {r s t : Bool} (h : kitB a b = some r) (k : kitB a c = some s) (m : kitB a d = some t) : PySem.W.kitAny K (.type a) [.type b, .type c, .type d] = some (r || (s || t)) := by
  cases r with
  | true => exact kitAny_cons (kit_ty h) (fun z => nomatch z) (fun _ => rfl)
  | false =>
    have e := kit2 (K := K) k m
    rw [Bool.false_or]
    exact kitAny_cons (kit_ty h) (fun _ => e) (fun z => nomatch z)
theorem dpGet {H : Hp} : ∀ {vs : List V} {ds : List PyData} {i : Nat} {v : V}, DpAll K H vs ds → vs[i]? = some v → ∃ d, ds[i]? = some d ∧ Dp K H v d
  | _, _, 0, v, .cons a _, h => ⟨_, rfl, by rw [← Option.some.inj h]; exact a⟩
  | _, _, i + 1, v, .cons _ b, h => dpGet (i := i) b h
  | _, _, i, v, .nil, h => by simp at h
theorem dpLen {H : Hp} : ∀ {vs : List V} {ds : List PyData}, DpAll K H vs ds → vs.length = ds.length
  | _, _, .nil => rfl
  | _, _, .cons _ b => congrArg (· + 1) (dpLen b)
theorem walk_zipT {a b : Addr} {xs ys : List V} {n : Nat} (hn : n = min xs.length ys.length) : Walk (RZ.ItzT K a b) n (fun H => SqT K H a xs ∧ SqT K H b ys) (YPair (fun i => xs[i]?) (fun i => ys[i]?)) := by
  subst hn
  refine ⟨fun i H hi q => ⟨xs, ys, _, _, q.1, q.2, List.getElem?_eq_getElem (by omega), List.getElem?_eq_getElem (by omega)⟩, fun H q => ⟨xs, ys, q.1, q.2, by omega⟩, fun i H v H' hi q y => ?_⟩
  obtain ⟨T, x, z, e1, e2, e3, e4, e5⟩ := y
  exact ⟨T, x, z, e1, e2, e3, e4 _ q.1, e5 _ q.2⟩
mutual
/-- no list in it has more than a thousand things -/
def wid : PyData → Bool
  | .list xs | .tuple xs => decide (xs.length ≤ 1000) && widAll xs
  | _ => true
def widAll : List PyData → Bool
  | [] => true
  | x :: xs => wid x && widAll xs
end
theorem widAll_mem : ∀ {ds : List PyData} {d : PyData}, widAll ds = true → d ∈ ds → wid d = true
  | x :: xs, d, h, m => by
    simp only [widAll, Bool.and_eq_true] at h
    rcases List.mem_cons.mp m with e | m
    · rw [e]; exact h.1
    · exact widAll_mem h.2 m
theorem wid_parts {xs : List PyData} (h : wid (.list xs) = true ∨ wid (.tuple xs) = true) : xs.length ≤ 1000 ∧ widAll xs = true := by
  simp only [wid, Bool.and_eq_true, decide_eq_true_eq, or_self] at h
  exact h
/-- the promise of «same» for data of a depth below n -/
def spSame (K : PySem.W.Frag) (n : Nat) : Sp := fun vs H Q _ => ∃ (x y : V) (d : PyData), vs = [x, y] ∧ Dp K H x d ∧ Dp K H y d ∧ d.depth < n ∧ wid d = true ∧ ∀ H', Same H H' → Q (.bl true) H'
theorem no_fn {f : Addr} {fd : FuncData} {ps : List Str} {k : Nat} {sp : Sp} (h : ∀ vs H Q E, ¬ sp vs H Q E) : FnOk P w K mg base CX0 k f fd ps sp :=
  ⟨fun vs H Q E z => (h vs H Q E z).elim, fun _ _ _ _ _ _ _ _ _ _ _ _ _ z => (h _ _ _ _ z).elim⟩
theorem same_loop {J : It} {N n : Nat} {G : Hp → Prop} {xs ys : List V} {ds : List PyData} {H : Hp} {D : Addr} {x0 y0 : V} {Qd : Hp → Prop} (wk : Walk J N G (YPair (fun i => xs[i]?) (fun i => ys[i]?))) (hx : DpAll K H xs ds) (hy : DpAll K H ys ds)
    (hd : PyData.depthAll ds < n) (hw : widAll ds = true) (hN : N ≤ 1000) (hG : ∀ H', Same H H' → G H') (hD : H D = none) (hq : ∀ H', Same H H' → H' D = some (.lst ((List.replicate N true).map V.bl)) → Qd H') :
    ∃ W : Nat → Nat → Hp → Prop, (∃ m, W 0 m (upd H D (.lst []))) ∧ ∀ i m H, W i m H →
      (J.stop i H ∧ Qd H) ∨ (J.go i H ∧ ∃ Nx : Hp → Prop, (∀ H', Nx H' → ∃ m', m' < m ∧ W (i + 1) m' H') ∧ ∀ x H', J.yld i H x H' →
        gTup K 2 (gCons (gName 2) (gCons (gName 3) gNil)) x (wipe [some x0, some y0, none, none] [2, 3]) H' fun σ2 H2 => wipe σ2 [2, 3] = wipe [some x0, some y0, none, none] [2, 3] ∧ tYes σ2 H2 fun b H3 =>
        if b = true then (tCall (spSame K n) [] E0 (tCons (tVar 2) (tCons (tVar 3) tNil))) σ2 H3 fun y H4 => ∃ acc, H4 D = some (.lst acc) ∧ acc.length < sizeLine ∧ Nx (upd H4 D (.lst (acc ++ [y]))) else Nx H3) := by
  have same_upd : ∀ {H' : Hp} {o : HO}, Same H H' → Same H (upd H' D o) := fun s b u e => by
    rw [upd_ne (ne_of_none e hD)]; exact s _ _ e
  refine lc_it wk (fun i H' => Same H H' ∧ H' D = some (.lst ((List.replicate i true).map V.bl))) ⟨Same.new hD, upd_same⟩ (fun i H' _ p => hG H' p.1) ?_ (fun H' p => hq H' p.1 p.2)
  rintro i v H' H'' hi ⟨s1, hD'⟩ ⟨T, x, y, rfl, hT, rfl, hx', hy'⟩
  obtain ⟨d, hd1, dx⟩ := dpGet hx hx'
  obtain ⟨d', hd2, dy⟩ := dpGet hy hy'
  rw [hd1] at hd2
  cases hd2
  have hdep : d.depth < n := Nat.lt_of_le_of_lt (PyData.depth_le_depthAll ds d (List.mem_of_getElem? hd1)) hd
  have s2 := s1.trans (Same.new (o := .tup [x, y]) hT)
  refine ⟨T, [x, y], rfl, SqT.of upd_same, rfl, _, _, rfl, _, _, rfl, rfl, rfl, ?_⟩
  refine ⟨_, rfl, _, rfl, x, y, d, rfl, dpSame s2 dx, dpSame s2 dy, hdep, widAll_mem hw (List.mem_of_getElem? hd1), fun H3 s3 => ?_⟩
  have hD3 : H3 D = some (.lst ((List.replicate i true).map V.bl)) := s3 _ _ (Same.new hT _ _ hD')
  refine ⟨_, hD3, by rw [List.length_map, List.length_replicate]; exact Nat.lt_of_lt_of_le hi (Nat.le_trans hN (by decide)), same_upd (s2.trans s3), ?_⟩
  rw [upd_same, List.replicate_succ', List.map_append]
  rfl
theorem all_true (n : Nat) : (List.replicate n true).all id = true := by
  induction n with
  | zero => rfl
  | succ n ih => rw [List.replicate_succ, List.all_cons, ih]; rfl
theorem ok_same (T : Txt K mg A) : ∀ n : Nat, FnOk P w K mg base CX0 n A.a__law_same A.d__law_same P__law_same (spSame K n)
  | 0 => no_fn fun vs H Q E ⟨_, _, _, _, _, _, h, _⟩ => absurd h (Nat.not_lt_zero _)
  | n + 1 => by
    have G__law_same : FnOk P w K mg base CX0 n A.a__law_same A.d__law_same P__law_same (spSame K n) := ok_same T n
    refine T.f__law_same.ok sc__law_same (fun vs H Q E h => ?_) (fun cdv A' outer s H vs Q E hr h => ?_)
    · obtain ⟨x, y, d, rfl, _⟩ := h
      rfl
    · obtain ⟨x, y, d, rfl, hx, hy, hd, hw, k⟩ := h
      refine ⟨_, (pss_cons (ps_if (pt_val (pe_callB call_isiT (by rfl) T.isinstance (by decide +kernel) (pa_cons (pv 1) (pa_cons (pe_tup (pa_cons (pe_bltn (v := .ty "list") (u := .type "list") (by rfl) T.list (by decide +kernel) rfl) (pa_cons (pe_bltn (v := .ty "tuple") (u := .type "tuple") (by rfl) T.tuple (by decide +kernel) rfl) pa_nil))) pa_nil))))
 (pss_cons (ps_if (PW.pt (pw_or (pt_cmpR op_ne (pe_callB call_isi (by rfl) T.isinstance (by decide +kernel) (pa_cons (pv 0) (pa_cons (pe_bltn (v := .ty "list") (u := .type "list") (by rfl) T.list (by decide +kernel) rfl) pa_nil))) (pe_callB call_isi (by rfl) T.isinstance (by decide +kernel) (pa_cons (pv 1) (pa_cons (pe_bltn (v := .ty "list") (u := .type "list") (by rfl) T.list (by decide +kernel) rfl) pa_nil))) (nomark _)) (pw_or1 (pt_cmpR op_ne (pe_callB call_isi (by rfl) T.isinstance (by decide +kernel) (pa_cons (pv 0) (pa_cons (pe_bltn (v := .ty "tuple") (u := .type "tuple") (by rfl) T.tuple (by decide +kernel) rfl) pa_nil))) (pe_callB call_isi (by rfl) T.isinstance (by decide +kernel) (pa_cons (pv 1) (pa_cons (pe_bltn (v := .ty "tuple") (u := .type "tuple") (by rfl) T.tuple (by decide +kernel) rfl) pa_nil))) (nomark _)))))
 (pss_one (ps_ret pe_bl))
 pss_nil)
 (pss_one (ps_ret (pe_and (pe_cmpR op_eq (pe_callB call_len_seq (by rfl) T.len PySem.boot_len (pa_cons (pv 0) pa_nil)) (pe_callB call_len_seq (by rfl) T.len PySem.boot_len (pa_cons (pv 1) pa_nil)) (nomark _)) (pe_one (pe_callB (cr_all rfl) (by rfl) T.all (by decide +kernel) (pa_cons (pe_lc (own := [("_law_x", 2), ("_law_y", 3)]) (g := gTup K 2 (gCons (gName 2) (gCons (gName 3) gNil))) (by rfl) sc__law_same.nd (RZ.pi_zipA (by rfl) T.zip (pa_cons (pv 0) (pa_cons (pv 1) pa_nil))) (blkOk_by (N := N__law_same) (sc := defScope s__law_same) (by decide +kernel)) (fun _ _ _ _ _ => (pg_tup rfl (pgs_cons (pg_name (i := 2) sc__law_same.nd rfl (Or.inl rfl)) (pgs_cons (pg_name (i := 3) sc__law_same.nd rfl (Or.inl rfl)) pgs_nil)))) (fun _ _ _ _ _ => pts_nil) (fun _ _ _ _ _ => (pe_call G__law_same (hr.mono (by omega)) (by rfl) T.g__law_same T.f__law_same.kp T.b__law_same .nil pass0 (pa_cons (pv 2) (pa_cons (pv 3) pa_nil))))) pa_nil)))))))
 pss_nil)
 (pss_cons (ps_if (pt_val (pe_callB call_isi (by rfl) T.isinstance (by decide +kernel) (pa_cons (pv 1) (pa_cons (pe_bltn (v := .ty "int") (u := .type "int") (by rfl) T.int (by decide +kernel) rfl) pa_nil))))
 (pss_one (ps_ret (pe_and (pe_callB call_isi (by rfl) T.isinstance (by decide +kernel) (pa_cons (pv 0) (pa_cons (pe_bltn (v := .ty "int") (u := .type "int") (by rfl) T.int (by decide +kernel) rfl) pa_nil))) (pe_and (pe_cmpR op_eq (pe_callB call_isi (by rfl) T.isinstance (by decide +kernel) (pa_cons (pv 0) (pa_cons (pe_bltn (v := .ty "bool") (u := .type "bool") (by rfl) T.bool (by decide +kernel) rfl) pa_nil))) (pe_callB call_isi (by rfl) T.isinstance (by decide +kernel) (pa_cons (pv 1) (pa_cons (pe_bltn (v := .ty "bool") (u := .type "bool") (by rfl) T.bool (by decide +kernel) rfl) pa_nil))) (nomark _)) (pe_one (pe_cmpR op_eq (pv 0) (pv 1) (nomark _)))))))
 pss_nil)
 (pss_one (ps_ret (pe_and (pe_cmpR op_isBl (pe_callB call_isiT (by rfl) T.isinstance (by decide +kernel) (pa_cons (pv 0) (pa_cons (pe_tup (pa_cons (pe_bltn (v := .ty "int") (u := .type "int") (by rfl) T.int (by decide +kernel) rfl) (pa_cons (pe_bltn (v := .ty "list") (u := .type "list") (by rfl) T.list (by decide +kernel) rfl) (pa_cons (pe_bltn (v := .ty "tuple") (u := .type "tuple") (by rfl) T.tuple (by decide +kernel) rfl) pa_nil)))) pa_nil))) pe_bl (nomark _)) (pe_one (pe_cmpR op_eq (pv 0) (pv 1) (nomark _)))))))), ?_⟩
      -- isinstance(due, (list, tuple))
      refine ⟨_, rfl, by show 2 ≤ sizeLine; decide, fun p hp => ?_⟩
      have s1 : Same H (upd H p (.tup [.ty "list", .ty "tuple"])) := Same.new hp
      have hx1 := dpSame s1 hx
      have hy1 := dpSame s1 hy
      cases hx with
      | non =>
        cases hy
        refine ⟨_, p, _, _, _, false, rfl, upd_same, .cons (.ty _) (.cons (.ty _) .nil), .base .non, kit2 (a := "NoneType") (b := "list") (c := "tuple") (r := false) (s := false) (by decide +kernel) (by decide +kernel), _, rfl, iteF ?_⟩
        refine ⟨_, rfl, _, _, .type "NoneType", _, false, rfl, .ty _, .base .non, kit_ty (by decide +kernel), _, rfl, iteF ?_⟩
        refine ⟨_, rfl, by show 3 ≤ sizeLine; decide, fun q hq => ⟨_, q, _, _, _, false, rfl, upd_same, .cons (.ty _) (.cons (.ty _) (.cons (.ty _) .nil)), .base .non, kit3 (a := "NoneType") (b := "int") (c := "list") (d := "tuple") (r := false) (s := false) (t := false) (by decide +kernel) (by decide +kernel) (by decide +kernel), _, _, rfl, rfl, _, rfl, iteT ⟨_, rfl, _, rfl, rfl, ?_⟩⟩⟩
        exact k _ (s1.trans (Same.new hq))
      | str z =>
        cases hy
        refine ⟨_, p, _, _, _, false, rfl, upd_same, .cons (.ty _) (.cons (.ty _) .nil), .base (.str _), kit2 (a := "str") (b := "list") (c := "tuple") (r := false) (s := false) (by decide +kernel) (by decide +kernel), _, rfl, iteF ?_⟩
        refine ⟨_, rfl, _, _, .type "str", _, false, rfl, .ty _, .base (.str _), kit_ty (by decide +kernel), _, rfl, iteF ?_⟩
        refine ⟨_, rfl, by show 3 ≤ sizeLine; decide, fun q hq => ⟨_, q, _, _, _, false, rfl, upd_same, .cons (.ty _) (.cons (.ty _) (.cons (.ty _) .nil)), .base (.str _), kit3 (a := "str") (b := "int") (c := "list") (d := "tuple") (r := false) (s := false) (t := false) (by decide +kernel) (by decide +kernel) (by decide +kernel), _, _, rfl, rfl, _, rfl, iteT ⟨_, rfl, _, rfl, rfl, ?_⟩⟩⟩
        rw [decide_eq_true rfl]
        exact k _ (s1.trans (Same.new hq))
      | int i =>
        cases hy
        refine ⟨_, p, _, _, _, false, rfl, upd_same, .cons (.ty _) (.cons (.ty _) .nil), .base (.int _), kit2 (a := "int") (b := "list") (c := "tuple") (r := false) (s := false) (by decide +kernel) (by decide +kernel), _, rfl, iteF ?_⟩
        refine ⟨_, rfl, _, _, .type "int", _, true, rfl, .ty _, .base (.int _), kit_ty (by decide +kernel), _, rfl, iteT ?_⟩
        refine ⟨_, rfl, _, _, .type "int", _, true, rfl, .ty _, .base (.int _), kit_ty (by decide +kernel), _, rfl, iteT ?_⟩
        refine ⟨_, rfl, _, _, .type "int", _, false, rfl, .ty _, .base (.int _), kit_ty (by decide +kernel), _, rfl, _, _, .type "int", _, false, rfl, .ty _, .base (.int _), kit_ty (by decide +kernel), rfl, _, rfl, iteT ⟨_, rfl, _, rfl, rfl, ?_⟩⟩
        rw [decide_eq_true rfl]
        exact k _ s1
      | bl b =>
        cases hy
        refine ⟨_, p, _, _, _, false, rfl, upd_same, .cons (.ty _) (.cons (.ty _) .nil), .base (.bl _), kit2 (a := "bool") (b := "list") (c := "tuple") (r := false) (s := false) (by decide +kernel) (by decide +kernel), _, rfl, iteF ?_⟩
        refine ⟨_, rfl, _, _, .type "bool", _, true, rfl, .ty _, .base (.bl _), kit_ty (by decide +kernel), _, rfl, iteT ?_⟩
        refine ⟨_, rfl, _, _, .type "bool", _, true, rfl, .ty _, .base (.bl _), kit_ty (by decide +kernel), _, rfl, iteT ?_⟩
        refine ⟨_, rfl, _, _, .type "bool", _, true, rfl, .ty _, .base (.bl _), kit_ty (by decide +kernel), _, rfl, _, _, .type "bool", _, true, rfl, .ty _, .base (.bl _), kit_ty (by decide +kernel), rfl, _, rfl, iteT ⟨_, rfl, _, rfl, rfl, ?_⟩⟩
        rw [decide_eq_true rfl]
        exact k _ s1
      | lst hL hA =>
        cases hy with
        | lst hL2 hA2 =>
          obtain ⟨w1, w2⟩ := wid_parts (.inl hw)
          have l1 := dpLen hA
          have l2 := dpLen hA2
          have t1 := tyL (sqUp hL s1)
          have t2 := tyL (sqUp hL2 s1)
          refine ⟨_, p, _, _, _, true, rfl, upd_same, .cons (.ty _) (.cons (.ty _) .nil), t2, kit2 (a := "list") (b := "list") (c := "tuple") (r := true) (s := false) (by decide +kernel) (by decide +kernel), _, rfl, iteT ?_⟩
          refine ⟨_, rfl, _, _, .type "list", _, true, rfl, .ty _, t1, kit_ty (by decide +kernel), _, rfl, _, _, .type "list", _, true, rfl, .ty _, t2, kit_ty (by decide +kernel), rfl, _, rfl, iteF ?_⟩
          refine ⟨_, rfl, _, _, .type "list", _, false, rfl, .ty _, t1, kit_ty (by decide +kernel), _, rfl, _, _, .type "list", _, false, rfl, .ty _, t2, kit_ty (by decide +kernel), rfl, _, rfl, iteF ?_⟩
          refine ⟨_, rfl, _, _, rfl, .inl (sqUp hL s1), _, rfl, _, _, rfl, .inl (sqUp hL2 s1), rfl, true, ?_, iteT ?_⟩
          · rw [decide_eq_true (by rw [l1, l2])]
          · refine ⟨_, rfl, _, rfl, _, _, _, _, rfl, .inl ⟨sqUp hL s1, sqUp hL2 s1, fun D hD => same_loop (walk_zip rfl) (dpAllSame s1 hA) (dpAllSame s1 hA2) (by simp only [PyData.depth] at hd; omega) w2 (by omega) (fun H' s' => ⟨sqUp hL (s1.trans s'), sqUp hL2 (s1.trans s')⟩) hD (fun H' s' hD' => ?_)⟩⟩
            refine ⟨D, _, rfl, SqL.of hD', ?_⟩
            rw [all_true]
            exact k _ (s1.trans s')
      | tup hL hA =>
        cases hy with
        | tup hL2 hA2 =>
          obtain ⟨w1, w2⟩ := wid_parts (.inr hw)
          have l1 := dpLen hA
          have l2 := dpLen hA2
          have t1 := tyT (stUp hL s1)
          have t2 := tyT (stUp hL2 s1)
          refine ⟨_, p, _, _, _, true, rfl, upd_same, .cons (.ty _) (.cons (.ty _) .nil), t2, kit2 (a := "tuple") (b := "list") (c := "tuple") (r := false) (s := true) (by decide +kernel) (by decide +kernel), _, rfl, iteT ?_⟩
          refine ⟨_, rfl, _, _, .type "tuple", _, false, rfl, .ty _, t1, kit_ty (by decide +kernel), _, rfl, _, _, .type "tuple", _, false, rfl, .ty _, t2, kit_ty (by decide +kernel), rfl, _, rfl, iteF ?_⟩
          refine ⟨_, rfl, _, _, .type "tuple", _, true, rfl, .ty _, t1, kit_ty (by decide +kernel), _, rfl, _, _, .type "tuple", _, true, rfl, .ty _, t2, kit_ty (by decide +kernel), rfl, _, rfl, iteF ?_⟩
          refine ⟨_, rfl, _, _, rfl, .inr (stUp hL s1), _, rfl, _, _, rfl, .inr (stUp hL2 s1), rfl, true, ?_, iteT ?_⟩
          · rw [decide_eq_true (by rw [l1, l2])]
          · refine ⟨_, rfl, _, rfl, _, _, _, _, rfl, .inr ⟨stUp hL s1, stUp hL2 s1, fun D hD => same_loop (walk_zipT rfl) (dpAllSame s1 hA) (dpAllSame s1 hA2) (by simp only [PyData.depth] at hd; omega) w2 (by omega) (fun H' s' => ⟨stUp hL (s1.trans s'), stUp hL2 (s1.trans s')⟩) hD (fun H' s' hD' => ?_)⟩⟩
            refine ⟨D, _, rfl, SqL.of hD', ?_⟩
            rw [all_true]
            exact k _ (s1.trans s')
end
end K5
set_option Elab.async false
set_option linter.all false
set_option maxRecDepth 100000
set_option maxHeartbeats 4000000
namespace K5
open PySem L2
local macro_rules | `(tactic| walk_at "rd1") => `(tactic| first
  | refine ⟨_, _, rfl, rfl, ?_⟩
  | refine ⟨_, _, _, _, rfl, rfl, SqL.of (by assumption), rfl, ?_⟩
  | refine ⟨_, _, _, _, rfl, rfl, (by assumption), rfl, ?_⟩
  | refine .inl ⟨_, rfl, ?_⟩
  | refine ⟨_, rfl, ?_⟩
  | refine ⟨(by unfold CMul; omega), ?_⟩
  | refine ⟨(by unfold CPow; omega), ?_⟩
  | refine ⟨(by (try dsimp only); omega), ?_⟩
  | refine ⟨(by unfold CDiv; omega), ?_⟩
  | fail "rd1")
local macro_rules | `(tactic| walk_at "rd") => `(tactic| repeat' (walk_at "rd1"))
section
variable {P : Program} {w : World} {K : PySem.W.Frag} {mg : Str → Option Value} {base : Heap} {A : Ad}
def slt (x y : Str) : Prop := x.cps.toList < y.cps.toList
instance (x y : Str) : Decidable (slt x y) := inferInstanceAs (Decidable (x.cps.toList < y.cps.toList))
def sle (x y : Str) : Prop := ¬ slt y x
instance (x y : Str) : Decidable (sle x y) := inferInstanceAs (Decidable (¬ slt y x))
theorem sle_trans {x y z : Str} (a : sle x y) (b : sle y z) : sle x z :=
  fun h => (List.not_lt.mpr (List.le_trans (List.not_lt.mp a) (List.not_lt.mp b))) h
def rk (t : Str) (acc : List Str) : Nat := (acc.filter fun x => decide (sle x t)).length
theorem str_at {ns : List Str} {i : Nat} {x : V} (h : (ns.map V.str)[i]? = some x) : ∃ hi : i < ns.length, x = V.str ns[i] := by
  have hi : i < ns.length := by
    have := (List.getElem?_eq_some_iff.mp h).1
    rwa [List.length_map] at this
  refine ⟨hi, ?_⟩
  rw [List.getElem?_map, List.getElem?_eq_getElem hi] at h
  exact (Option.some.inj h).symm
end
end K5
set_option Elab.async false
set_option linter.all false
set_option maxRecDepth 100000
set_option maxHeartbeats 4000000
namespace K5
open PySem L2
local macro_rules | `(tactic| walk_at "rd1") => `(tactic| first
  | refine ⟨_, _, rfl, rfl, ?_⟩
  | refine ⟨_, _, _, _, rfl, rfl, SqL.of (by assumption), rfl, ?_⟩
  | refine ⟨_, _, _, _, rfl, rfl, (by assumption), rfl, ?_⟩
  | refine .inl ⟨_, rfl, ?_⟩
  | refine ⟨_, rfl, ?_⟩
  | refine ⟨(by unfold CMul; omega), ?_⟩
  | refine ⟨(by unfold CPow; omega), ?_⟩
  | refine ⟨(by (try dsimp only); omega), ?_⟩
  | refine ⟨(by unfold CDiv; omega), ?_⟩
  | fail "rd1")
local macro_rules | `(tactic| walk_at "rd") => `(tactic| repeat' (walk_at "rd1"))
section
variable {P : Program} {w : World} {K : PySem.W.Frag} {mg : Str → Option Value} {base : Heap} {A : Ad}
theorem put_new : ∀ (acc : List (Key × V)) (k : Key) (v : V), k ∉ acc.map (·.1) → putK acc k v = acc ++ [(k, v)] := fun acc k v h => by
  unfold putK
  have e : (acc.any fun kv => decide (kv.1 = k)) = false := by
    rw [List.any_eq_false]
    intro p hp q
    exact h (List.mem_map.mpr ⟨p, hp, of_decide_eq_true q⟩)
  rw [e]
  rfl
/-- what is no tuple -/
def NoTup (u : HO) : Prop := (∀ zs, u ≠ .tup zs) ∧ ∀ o zs, u ≠ .frz o (.tup zs)
theorem tupEr {H : Hp} {D a : Addr} {u : HO} {xs : List V} (hD : H D = some u) (hu : NoTup u) (h : SqT K H a xs) : SqT K (er H D) a xs := by
  rcases h with (h | ⟨o, h⟩) | h
  · exact .inl (.inl (er_of (fun e => by rw [e, hD] at h; exact hu.1 _ (Option.some.inj h)) h))
  · exact .inl (.inr ⟨o, er_of (fun e => by rw [e, hD] at h; exact hu.2 _ _ (Option.some.inj h)) h⟩)
  · exact .inr h
theorem tupSet {E : Hp} {p a : Addr} {u o : HO} {xs : List V} (hp : E p = some u) (hu : NoTup u) (h : SqT K E a xs) : SqT K (upd E p o) a xs :=
  stUp (tupEr hp hu h) fun b w e => by rw [upd_ne (er_some e).1]; exact (er_some e).2
theorem noTup_dK (kvs : List (Key × V)) : NoTup (.dK kvs) := ⟨fun _ z => (nomatch z), fun _ _ z => (nomatch z)⟩
theorem not_in_take {ys : List Str} (h : ys.Nodup) {i : Nat} (hi : i < ys.length) : ys[i] ∉ ys.take i := by
  have e : ys.take (i + 1) = ys.take i ++ [ys[i]] := by rw [List.take_succ, List.getElem?_eq_getElem hi]; rfl
  have n : (ys.take i ++ [ys[i]]).Nodup := by rw [← e]; exact h.sublist (List.take_sublist _ _)
  rw [List.nodup_append] at n
  exact fun m => n.2.2 _ m _ (List.mem_singleton.mpr rfl) rfl
end
end K5
set_option Elab.async false
set_option linter.all false
set_option maxRecDepth 100000
set_option maxHeartbeats 4000000
namespace K5
open PySem L2
local macro_rules | `(tactic| walk_at "rd1") => `(tactic| first
  | refine ⟨_, _, rfl, rfl, ?_⟩
  | refine ⟨_, _, _, _, rfl, rfl, SqL.of (by assumption), rfl, ?_⟩
  | refine ⟨_, _, _, _, rfl, rfl, (by assumption), rfl, ?_⟩
  | refine .inl ⟨_, rfl, ?_⟩
  | refine ⟨_, rfl, ?_⟩
  | refine ⟨(by unfold CMul; omega), ?_⟩
  | refine ⟨(by unfold CPow; omega), ?_⟩
  | refine ⟨(by (try dsimp only); omega), ?_⟩
  | refine ⟨(by unfold CDiv; omega), ?_⟩
  | fail "rd1")
local macro_rules | `(tactic| walk_at "rd") => `(tactic| repeat' (walk_at "rd1"))
section
variable {P : Program} {w : World} {K : PySem.W.Frag} {mg : Str → Option Value} {base : Heap} {A : Ad}
inductive MomN (ns : List Str) : PyData → Prop
  | clock : MomN ns (.str "clock")
  | edge {e n : Str} (he : e = "start" ∨ e = "done") (hn : n ∈ ns) : MomN ns (.tuple [.str e, .str n])
inductive WshN (ns : List Str) : PyData → Prop
  | mk {a b : PyData} {m : Int} (ha : MomN ns a) (hb : MomN ns b) : WshN ns (.tuple [a, b, .int m])
end
end K5
set_option Elab.async false
set_option linter.all false
set_option maxRecDepth 100000
set_option maxHeartbeats 4000000
namespace K5
open PySem L2
local macro_rules | `(tactic| walk_at "rd1") => `(tactic| first
  | refine ⟨_, _, rfl, rfl, ?_⟩
  | refine ⟨_, _, _, _, rfl, rfl, SqL.of (by assumption), rfl, ?_⟩
  | refine ⟨_, _, _, _, rfl, rfl, (by assumption), rfl, ?_⟩
  | refine .inl ⟨_, rfl, ?_⟩
  | refine ⟨_, rfl, ?_⟩
  | refine ⟨(by unfold CMul; omega), ?_⟩
  | refine ⟨(by unfold CPow; omega), ?_⟩
  | refine ⟨(by (try dsimp only); omega), ?_⟩
  | refine ⟨(by unfold CDiv; omega), ?_⟩
  | fail "rd1")
local macro_rules | `(tactic| walk_at "rd") => `(tactic| repeat' (walk_at "rd1"))
section
variable {P : Program} {w : World} {K : PySem.W.Frag} {mg : Str → Option Value} {base : Heap} {A : Ad}
theorem noTup_lst (xs : List V) : NoTup (.lst xs) := ⟨fun _ z => (nomatch z), fun _ _ z => (nomatch z)⟩
end
end K5
set_option Elab.async false
set_option linter.all false
set_option maxRecDepth 100000
set_option maxHeartbeats 4000000
namespace K5
open PySem L2
local macro_rules | `(tactic| walk_at "rd1") => `(tactic| first
  | refine ⟨_, _, rfl, rfl, ?_⟩
  | refine ⟨_, _, _, _, rfl, rfl, SqL.of (by assumption), rfl, ?_⟩
  | refine ⟨_, _, _, _, rfl, rfl, (by assumption), rfl, ?_⟩
  | refine .inl ⟨_, rfl, ?_⟩
  | refine ⟨_, rfl, ?_⟩
  | refine ⟨(by unfold CMul; omega), ?_⟩
  | refine ⟨(by unfold CPow; omega), ?_⟩
  | refine ⟨(by (try dsimp only); omega), ?_⟩
  | refine ⟨(by unfold CDiv; omega), ?_⟩
  | fail "rd1")
local macro_rules | `(tactic| walk_at "rd") => `(tactic| repeat' (walk_at "rd1"))
section
variable {P : Program} {w : World} {K : PySem.W.Frag} {mg : Str → Option Value} {base : Heap} {A : Ad}
def letters : Str := "abcdefghijklmnopqrstuvwxyz"
structure Nm (s : Str) : Prop where
  noclock : s ≠ "clock"
  pos : 1 ≤ s.length
  most : s.length ≤ 8
  low : ∀ c ∈ s.cps.toList, c ∈ letters.cps.toList
theorem nm_dec {xs : List Str} (h : (xs.all fun s => (decide (s ≠ "clock") && (decide (1 ≤ s.length) && (decide (s.length ≤ 8) && s.cps.toList.all fun c => decide (c ∈ letters.cps.toList))))) = true) : ∀ s ∈ xs, Nm s := by
  intro s hs
  have := List.all_eq_true.mp h s hs
  simp only [Bool.and_eq_true, decide_eq_true_eq, List.all_eq_true] at this
  exact ⟨this.1, this.2.1, this.2.2.1, this.2.2.2⟩
theorem pool_nm : ∀ s ∈ pool, Nm s := nm_dec (by decide +kernel)
def spIsName : Sp := fun vs H Q _ => ∃ (s : Str), vs = [.str s] ∧ Nm s ∧ ∀ H', Same H H' → Q (.bl true) H'
theorem ok_isname (T : Txt K mg A) : FnOk P w K mg base CX0 1 A.a_is_name A.d_is_name P_is_name spIsName := by
  refine T.f_is_name.ok sc_is_name (fun vs H Q E h => ?_) (fun cdv A' outer s H vs Q E hr h => ?_)
  · obtain ⟨s, rfl, _⟩ := h
    rfl
  · obtain ⟨z, rfl, N, k⟩ := h
    refine ⟨_, (pss_cons (ps_if (PW.pt (pw_or (pt_not (pt_val (pe_callB call_isi (by rfl) T.isinstance (by decide +kernel) (pa_cons (pv 0) (pa_cons (pe_bltn (v := .ty "str") (u := .type "str") (by rfl) T.str (by decide +kernel) rfl) pa_nil))))) (pw_or1 (pt_cmpR op_eq (pv 0) (pe_glob (v := .str "clock") (by rfl) T.g_CLOCK.choose_spec ⟨_, rfl⟩) (nomark _)))))
 (pss_one (ps_ret pe_bl))
 pss_nil)
 (pss_one (ps_ret (pe_and (pe_chain op_le op_le pe_int (pe_callB call_len_str (by rfl) T.len PySem.boot_len (pa_cons (pv 0) pa_nil)) (pe_glob (v := .int 8) (by rfl) T.g_LONGEST_NAME.choose_spec ⟨_, rfl⟩)) (pe_one (pe_callB (cr_all rfl) (by rfl) T.all (by decide +kernel) (pa_cons (pe_lc (own := [("sign", 1)]) (g := gName 1) (by rfl) sc_is_name.nd (pi_str (pv 0)) (blkOk_by (N := N_is_name) (sc := defScope s_is_name) (by decide +kernel)) (fun _ _ _ _ _ => pg_name (i := 1) sc_is_name.nd rfl (Or.inl rfl)) (fun _ _ _ _ _ => pts_nil) (fun _ _ _ _ _ => (pe_cmpR op_in_sign (pv 1) (pe_glob (v := .str "abcdefghijklmnopqrstuvwxyz") (by rfl) T.g_LETTERS.choose_spec ⟨_, rfl⟩) (by rfl)))) pa_nil))))))), ?_⟩
    refine ⟨_, rfl, _, _, .type "str", _, true, rfl, .ty _, .base (.str _), kit_ty (by decide +kernel), _, rfl, iteF ?_⟩
    refine ⟨_, rfl, rfl, _, rfl, ite2 (fun q => absurd (of_decide_eq_true q) (fun q => N.noclock (V.str.inj q))) (fun _ => ?_)⟩
    have l8 := N.most
    have l1 := N.pos
    have hsz : z.length ≤ sizeLine := Nat.le_trans l8 (by decide)
    refine ⟨_, rfl, z, rfl, hsz, _, _, rfl, rfl, _, rfl, ite2 (fun _ => ?_) (fun q => (q (decide_eq_true (by omega))).elim)⟩
    refine ⟨_, _, rfl, rfl, _, rfl, ite2 (fun _ => ?_) (fun q => (q (decide_eq_true (by omega))).elim)⟩
    refine ⟨_, rfl, z, rfl, fun D hD => lc_it walk_str (fun i H' => Same H H' ∧ H' D = some (.lst ((List.replicate i true).map V.bl))) ⟨Same.new hD, upd_same⟩ (fun _ _ _ _ => trivial) ?_ (fun H' q => ?_)⟩
    · rintro i x H' H'' hi ⟨s1, hD'⟩ ⟨rfl, c, hc, rfl⟩
      have hm : c ∈ z.cps.toList := by
        have := Array.mem_of_getElem? hc
        exact Array.mem_toList_iff.mpr this
      have e1 : decide (c ∈ letters.cps.toList) = true := decide_eq_true (N.low c hm)
      refine ⟨rfl, _, rfl, c, letters, rfl, rfl, _, hD', by rw [List.length_map, List.length_replicate]; exact Nat.lt_of_lt_of_le hi hsz, ?_, ?_⟩
      · exact fun b u e => by rw [upd_ne (ne_of_none e hD)]; exact s1 _ _ e
      · rw [upd_same, e1, List.replicate_succ', List.map_append]; rfl
    · refine ⟨D, _, rfl, SqL.of q.2, ?_⟩
      rw [all_true]
      exact k _ q.1
theorem rdUp {H H' : Hp} {d : Addr} {u : HO} (h : Rd H d u) (s : Same H H') : Rd H' d u := h.elim (fun q => .inl (s _ _ q)) (fun ⟨o, q⟩ => .inr ⟨o, s _ _ q⟩)
/-- is_dish of a text, or of what is none -/
def spIsDish (K : PySem.W.Frag) : Sp := fun vs H Q _ => ∃ (x : V) (dd : Addr) (kvs : List (Key × V)), vs = [x, .ref dd] ∧ Rd H dd (.dK kvs) ∧
  ((∃ s, x = .str s ∧ Q (.bl (valV kvs (.inr s)).isSome) H) ∨ ∃ t, TyX K H x (.type t) ∧ kitB t "str" = some false ∧ Q (.bl false) H)
theorem ok_isdish (T : Txt K mg A) : FnOk P w K mg base CX0 1 A.a_is_dish A.d_is_dish P_is_dish (spIsDish K) := by
  refine T.f_is_dish.ok sc_is_dish (fun vs H Q E h => ?_) (fun cdv A' outer s H vs Q E hr h => ?_)
  · obtain ⟨s, dd, kvs, rfl, _⟩ := h
    rfl
  · obtain ⟨x, dd, kvs, rfl, hd, h⟩ := h
    refine ⟨_, (pss_one (ps_ret (pe_and (pe_callB call_isi (by rfl) T.isinstance (by decide +kernel) (pa_cons (pv 0) (pa_cons (pe_bltn (v := .ty "str") (u := .type "str") (by rfl) T.str (by decide +kernel) rfl) pa_nil))) (pe_one (pe_cmp (pc_din (hu_of hr) (pv 0) (pv 1)) rfl))))), ?_⟩
    rcases h with ⟨z, rfl, k⟩ | ⟨t, ht, hk, k⟩
    · exact ⟨_, rfl, _, _, .type "str", _, true, rfl, .ty _, .base (.str _), kit_ty (by decide +kernel), _, rfl, iteT ⟨_, rfl, _, rfl, dd, _, rfl, .inl ⟨kvs, .inr z, hd, rfl, rfl⟩, k⟩⟩
    · exact ⟨_, rfl, _, _, .type t, _, false, rfl, .ty _, ht, kit_ty hk, _, rfl, iteF k⟩
theorem valV_at : ∀ {kvs : List (Key × V)} {i : Nat} {k : Key} {v : V}, (kvs.map (·.1)).Nodup → kvs[i]? = some (k, v) → valV kvs k = some v
  | p :: r, 0, k, v, _, h => by
    have e : p = (k, v) := Option.some.inj h
    rw [valV_pos (by rw [e]), e]
  | p :: r, i + 1, k, v, hN, h => by
    have hr : r[i]? = some (k, v) := h
    rw [List.map_cons, List.nodup_cons] at hN
    rw [valV_neg (fun e => hN.1 (by rw [e]; exact List.mem_map.mpr ⟨(k, v), List.mem_of_getElem? hr, rfl⟩))]
    exact valV_at hN.2 hr
  | [], i, k, v, _, h => by simp at h
theorem fillD {J : It} {n : Nat} {G : Hp → Prop} {Y : Nat → Hp → V → Hp → Prop} (wk : Walk J n G Y) {g : TG} {tt : TT} {tk tv : TE} {vs : List Nat} {σ : St} {H1 : Hp} {D : Addr} {Qd : Hp → Prop} (I : Nat → Hp → Prop)
    (i0 : I 0 (upd H1 D (.dK []))) (iG : ∀ i H, i ≤ n → I i H → G H)
    (step : ∀ i x H H', i < n → I i H → Y i H x H' → g x (wipe σ vs) H' fun σ2 H2 => wipe σ2 vs = wipe σ vs ∧ tt σ2 H2 fun b H3 =>
      if b = true then tk σ2 H3 fun y H4 => tv σ2 H4 fun z H5 => ∃ kvs k, y = kV k ∧ H5 D = some (.dK kvs) ∧ kvs.length < sizeLine ∧ I (i + 1) (upd H5 D (.dK (putK kvs k z))) else I (i + 1) H3)
    (last : ∀ H, I n H → Qd H) :
    ∃ W : Nat → Nat → Hp → Prop, (∃ m, W 0 m (upd H1 D (.dK []))) ∧ ∀ i m H, W i m H →
      (J.stop i H ∧ Qd H) ∨ (J.go i H ∧ ∃ Nx : Hp → Prop, (∀ H', Nx H' → ∃ m', m' < m ∧ W (i + 1) m' H') ∧ ∀ x H', J.yld i H x H' → g x (wipe σ vs) H' fun σ2 H2 => wipe σ2 vs = wipe σ vs ∧ tt σ2 H2 fun b H3 =>
        if b = true then tk σ2 H3 fun y H4 => tv σ2 H4 fun z H5 => ∃ kvs k, y = kV k ∧ H5 D = some (.dK kvs) ∧ kvs.length < sizeLine ∧ Nx (upd H5 D (.dK (putK kvs k z))) else Nx H3) := by
  refine ⟨fun i m H => m + i = n ∧ I i H, ⟨n, rfl, i0⟩, fun i m H ⟨e, h⟩ => ?_⟩
  have g' := iG i H (by omega) h
  rcases Nat.lt_or_ge i n with lt | ge
  · exact .inr ⟨wk.goes i H lt g', I (i + 1), fun H' h' => ⟨m - 1, by omega, by omega, h'⟩, fun x H' y => step i x H H' lt h (wk.yields i H x H' lt g' y)⟩
  · obtain rfl : i = n := by omega
    exact .inl ⟨wk.stops H g', last H h⟩
def isI : PyData → Bool | .int _ => true | _ => false
def isL : PyData → Bool | .list _ => true | .tuple _ => true | _ => false
def spIsInt (K : PySem.W.Frag) : Sp := fun vs H Q _ => ∃ (x : V) (d : PyData), vs = [x] ∧ Dp K H x d ∧ Q (.bl (isI d)) H
def spIsList (K : PySem.W.Frag) : Sp := fun vs H Q _ => ∃ (x : V) (d : PyData), vs = [x] ∧ Dp K H x d ∧ ∀ H', Same H H' → Q (.bl (isL d)) H'
theorem ok_isint (T : Txt K mg A) : FnOk P w K mg base CX0 1 A.a_is_integer A.d_is_integer P_is_integer (spIsInt K) := by
  refine T.f_is_integer.ok sc_is_integer (fun vs H Q E h => ?_) (fun cdv A' outer s H vs Q E hr h => ?_)
  · obtain ⟨x, d, rfl, _⟩ := h
    rfl
  · obtain ⟨x, d, rfl, hx, k⟩ := h
    refine ⟨_, (pss_one (ps_ret (pe_and (pe_callB call_isi (by rfl) T.isinstance (by decide +kernel) (pa_cons (pv 0) (pa_cons (pe_bltn (v := .ty "int") (u := .type "int") (by rfl) T.int (by decide +kernel) rfl) pa_nil))) (pe_one (pe_not (pe_callB call_isi (by rfl) T.isinstance (by decide +kernel) (pa_cons (pv 0) (pa_cons (pe_bltn (v := .ty "bool") (u := .type "bool") (by rfl) T.bool (by decide +kernel) rfl) pa_nil)))))))), ?_⟩
    cases hx with
    | non => exact ⟨_, rfl, _, _, .type "NoneType", _, false, rfl, .ty _, .base .non, kit_ty (by decide +kernel), _, rfl, iteF k⟩
    | str z => exact ⟨_, rfl, _, _, .type "str", _, false, rfl, .ty _, .base (.str _), kit_ty (by decide +kernel), _, rfl, iteF k⟩
    | int i => exact ⟨_, rfl, _, _, .type "int", _, true, rfl, .ty _, .base (.int _), kit_ty (by decide +kernel), _, rfl, iteT ⟨_, rfl, _, _, .type "int", _, false, rfl, .ty _, .base (.int _), kit_ty (by decide +kernel), _, rfl, k⟩⟩
    | bl b => exact ⟨_, rfl, _, _, .type "bool", _, true, rfl, .ty _, .base (.bl _), kit_ty (by decide +kernel), _, rfl, iteT ⟨_, rfl, _, _, .type "bool", _, true, rfl, .ty _, .base (.bl _), kit_ty (by decide +kernel), _, rfl, k⟩⟩
    | lst h _ => exact ⟨_, rfl, _, _, .type "list", _, false, rfl, .ty _, tyL h, kit_ty (by decide +kernel), _, rfl, iteF k⟩
    | tup h _ => exact ⟨_, rfl, _, _, .type "tuple", _, false, rfl, .ty _, tyT h, kit_ty (by decide +kernel), _, rfl, iteF k⟩
theorem ok_islist (T : Txt K mg A) : FnOk P w K mg base CX0 1 A.a_is_list A.d_is_list P_is_list (spIsList K) := by
  refine T.f_is_list.ok sc_is_list (fun vs H Q E h => ?_) (fun cdv A' outer s H vs Q E hr h => ?_)
  · obtain ⟨x, d, rfl, _⟩ := h
    rfl
  · obtain ⟨x, d, rfl, hx, k⟩ := h
    refine ⟨_, (pss_one (ps_ret (pe_callB call_isiT (by rfl) T.isinstance (by decide +kernel) (pa_cons (pv 0) (pa_cons (pe_tup (pa_cons (pe_bltn (v := .ty "list") (u := .type "list") (by rfl) T.list (by decide +kernel) rfl) (pa_cons (pe_bltn (v := .ty "tuple") (u := .type "tuple") (by rfl) T.tuple (by decide +kernel) rfl) pa_nil))) pa_nil))))), ?_⟩
    refine ⟨_, rfl, by show 2 ≤ sizeLine; decide, fun p hp => ?_⟩
    have s1 : Same H (upd H p (.tup [.ty "list", .ty "tuple"])) := Same.new hp
    have k := k _ s1
    cases dpSame s1 hx with
    | non => exact ⟨_, p, _, _, _, false, rfl, upd_same, .cons (.ty _) (.cons (.ty _) .nil), .base .non, kit2 (a := "NoneType") (b := "list") (c := "tuple") (r := false) (s := false) (by decide +kernel) (by decide +kernel), k⟩
    | str z => exact ⟨_, p, _, _, _, false, rfl, upd_same, .cons (.ty _) (.cons (.ty _) .nil), .base (.str _), kit2 (a := "str") (b := "list") (c := "tuple") (r := false) (s := false) (by decide +kernel) (by decide +kernel), k⟩
    | int z => exact ⟨_, p, _, _, _, false, rfl, upd_same, .cons (.ty _) (.cons (.ty _) .nil), .base (.int _), kit2 (a := "int") (b := "list") (c := "tuple") (r := false) (s := false) (by decide +kernel) (by decide +kernel), k⟩
    | bl z => exact ⟨_, p, _, _, _, false, rfl, upd_same, .cons (.ty _) (.cons (.ty _) .nil), .base (.bl _), kit2 (a := "bool") (b := "list") (c := "tuple") (r := false) (s := false) (by decide +kernel) (by decide +kernel), k⟩
    | lst h _ => exact ⟨_, p, _, _, _, true, rfl, upd_same, .cons (.ty _) (.cons (.ty _) .nil), tyL h, kit2 (a := "list") (b := "list") (c := "tuple") (r := true) (s := false) (by decide +kernel) (by decide +kernel), k⟩
    | tup h _ => exact ⟨_, p, _, _, _, true, rfl, upd_same, .cons (.ty _) (.cons (.ty _) .nil), tyT h, kit2 (a := "tuple") (b := "list") (c := "tuple") (r := false) (s := true) (by decide +kernel) (by decide +kernel), k⟩
end
end K5
set_option Elab.async false
set_option linter.all false
set_option maxRecDepth 100000
set_option maxHeartbeats 4000000
namespace K5
open PySem L2
local macro_rules | `(tactic| walk_at "rd1") => `(tactic| first
  | refine ⟨_, _, rfl, rfl, ?_⟩
  | refine ⟨_, _, _, _, rfl, rfl, SqL.of (by assumption), rfl, ?_⟩
  | refine ⟨_, _, _, _, rfl, rfl, (by assumption), rfl, ?_⟩
  | refine .inl ⟨_, rfl, ?_⟩
  | refine ⟨_, rfl, ?_⟩
  | refine ⟨(by unfold CMul; omega), ?_⟩
  | refine ⟨(by unfold CPow; omega), ?_⟩
  | refine ⟨(by (try dsimp only); omega), ?_⟩
  | refine ⟨(by unfold CDiv; omega), ?_⟩
  | fail "rd1")
local macro_rules | `(tactic| walk_at "rd") => `(tactic| repeat' (walk_at "rd1"))
section
variable {P : Program} {w : World} {K : PySem.W.Frag} {mg : Str → Option Value} {base : Heap} {A : Ad}
mutual
def strip : PyData → PyData
  | .list xs => .tuple (stripAll xs)
  | .tuple xs => .tuple (stripAll xs)
  | d => d
def stripAll : List PyData → List PyData
  | [] => []
  | d :: ds => strip d :: stripAll ds
end
def SqX (K : PySem.W.Frag) (H : Hp) (a : Addr) (xs : List V) : Prop := SqL K H a xs ∨ SqT K H a xs
theorem sxUp {H H' : Hp} {a : Addr} {xs : List V} (h : SqX K H a xs) (s : Same H H') : SqX K H' a xs := h.elim (fun q => .inl (sqUp q s)) (fun q => .inr (stUp q s))
theorem stripAll_map : ∀ ds : List PyData, stripAll ds = ds.map strip
  | [] => rfl
  | d :: ds => by rw [stripAll, stripAll_map ds]; rfl
theorem strip_non : strip .none = .none := by simp [strip]
theorem strip_bl (b : Bool) : strip (.bool b) = .bool b := by simp [strip]
theorem strip_int (i : Int) : strip (.int i) = .int i := by simp [strip]
theorem strip_str (s : Str) : strip (.str s) = .str s := by simp [strip]
theorem dp_atom {H : Hp} {x : V} {d : PyData} (h : Dp K H x d) : (∀ s, strip d = .str s → x = .str s ∧ d = .str s) ∧ ∀ i, strip d = .int i → x = .int i ∧ d = .int i := by
  cases h <;> (constructor <;> intro z e <;> first | (simp only [strip_non, strip_bl, strip_int, strip_str] at e; cases e; first | exact ⟨rfl, rfl⟩ | done) | (rw [strip] at e; cases e))
theorem dp_seq {H : Hp} {x : V} {d : PyData} {es : List PyData} (h : Dp K H x d) (e : strip d = .tuple es) : ∃ a xs ds, x = .ref a ∧ SqX K H a xs ∧ DpAll K H xs ds ∧ stripAll ds = es ∧ isL d = true ∧ (d = .list ds ∨ d = .tuple ds) := by
  cases h with
  | lst hL hA =>
    rw [strip] at e
    exact ⟨_, _, _, rfl, .inl hL, hA, PyData.tuple.inj e, rfl, .inl rfl⟩
  | tup hL hA =>
    rw [strip] at e
    exact ⟨_, _, _, rfl, .inr hL, hA, PyData.tuple.inj e, rfl, .inr rfl⟩
  | _ => simp only [strip_non, strip_bl, strip_int, strip_str] at e; cases e
theorem dpAll_one {H : Hp} {xs : List V} {ds : List PyData} {p : PyData} {r : List PyData} (h : DpAll K H xs ds) (e : stripAll ds = p :: r) : ∃ u xr d dr, xs = u :: xr ∧ ds = d :: dr ∧ Dp K H u d ∧ strip d = p ∧ DpAll K H xr dr ∧ stripAll dr = r := by
  cases h with
  | nil => rw [stripAll] at e; cases e
  | cons a b =>
    rw [stripAll] at e
    injection e with e1 e2
    exact ⟨_, _, _, _, rfl, rfl, a, e1, b, e2⟩
theorem dpAll_nil {H : Hp} {xs : List V} {ds : List PyData} (h : DpAll K H xs ds) (e : stripAll ds = []) : xs = [] ∧ ds = [] := by
  cases h with
  | nil => exact ⟨rfl, rfl⟩
  | cons a b => rw [stripAll] at e; cases e
theorem dp2 {H : Hp} {x : V} {d p q : PyData} (h : Dp K H x d) (e : strip d = .tuple [p, q]) : ∃ a u v d1 d2, x = .ref a ∧ SqX K H a [u, v] ∧ Dp K H u d1 ∧ Dp K H v d2 ∧ strip d1 = p ∧ strip d2 = q ∧ isL d = true ∧ (d = .list [d1, d2] ∨ d = .tuple [d1, d2]) := by
  obtain ⟨a, xs, ds, rfl, hq, hA, e1, hl, hd⟩ := dp_seq h e
  obtain ⟨u, xr, d1, dr, rfl, rfl, h1, e2, hA, e1⟩ := dpAll_one hA e1
  obtain ⟨v, xr, d2, dr, rfl, rfl, h2, e3, hA, e1⟩ := dpAll_one hA e1
  obtain ⟨rfl, rfl⟩ := dpAll_nil hA e1
  exact ⟨a, u, v, d1, d2, rfl, hq, h1, h2, e2, e3, hl, hd⟩
theorem dp3 {H : Hp} {x : V} {d p q r : PyData} (h : Dp K H x d) (e : strip d = .tuple [p, q, r]) : ∃ a u v w d1 d2 d3, x = .ref a ∧ SqX K H a [u, v, w] ∧ Dp K H u d1 ∧ Dp K H v d2 ∧ Dp K H w d3 ∧ strip d1 = p ∧ strip d2 = q ∧ strip d3 = r ∧ isL d = true := by
  obtain ⟨a, xs, ds, rfl, hq, hA, e1, hl, hd⟩ := dp_seq h e
  obtain ⟨u, xr, d1, dr, rfl, rfl, h1, e2, hA, e1⟩ := dpAll_one hA e1
  obtain ⟨v, xr, d2, dr, rfl, rfl, h2, e3, hA, e1⟩ := dpAll_one hA e1
  obtain ⟨w, xr, d3, dr, rfl, rfl, h3, e4, hA, e1⟩ := dpAll_one hA e1
  obtain ⟨rfl, rfl⟩ := dpAll_nil hA e1
  exact ⟨a, u, v, w, d1, d2, d3, rfl, hq, h1, h2, h3, e2, e3, e4, hl⟩
theorem dpAll_strs {H : Hp} : ∀ {ss : List Str} {xs : List V} {ds : List PyData}, DpAll K H xs ds → stripAll ds = ss.map PyData.str → xs = ss.map V.str
  | [], _, _, h, e => (dpAll_nil h e).1
  | s :: ss, _, _, h, e => by
    obtain ⟨u, xr, d1, dr, rfl, rfl, h1, e2, hA, e1⟩ := dpAll_one h e
    rw [dpAll_strs hA e1, ((dp_atom h1).1 _ e2).1]; rfl
theorem seq_or {H0 H : Hp} {t : Addr} {xs : List V} {j : Nat} {σ : St} {R : It → Hp → Prop} (h : SqX K H0 t xs) (s0 : Same H0 H) (hj : σ[j]? = some (some (.ref t))) (hR : ∀ J G, Walk J xs.length G (YAt xs) → (∀ H', Same H0 H' → G H') → R J H) :
    iList K (tVar j) σ H R ∨ iTup K (tVar j) σ H R :=
  h.elim (fun q => .inl ⟨_, hj, t, rfl, ⟨_, sqUp q s0⟩, hR _ _ walk_list fun H' s => sqUp q s⟩) (fun q => .inr ⟨_, hj, t, rfl, ⟨_, stUp q s0⟩, hR _ _ walk_tup fun H' s => stUp q s⟩)
theorem enum_or {H0 H : Hp} {t : Addr} {xs : List V} {j : Nat} {σ : St} {R : It → Hp → Prop} (h : SqX K H0 t xs) (s0 : Same H0 H) (hj : σ[j]? = some (some (.ref t))) (hR : ∀ J G, Walk J xs.length G (YPair (fun i => some (.int (i : Nat))) (fun i => xs[i]?)) → (∀ H', Same H0 H' → G H') → R J H) :
    iEnum K (tCons (tVar j) tNil) σ H R ∨ EnT.iEnumT K (tCons (tVar j) tNil) σ H R :=
  h.elim (fun q => .inl ⟨_, hj, t, _, rfl, sqUp q s0, hR _ _ walk_enum fun H' s => sqUp q s⟩) (fun q => .inr ⟨_, hj, t, _, rfl, stUp q s0, hR _ _ EnT.walk_enumT fun H' s => stUp q s⟩)
theorem lt_of {H : Hp} {p : Addr} {xs : List V} {i : Int} {v : V} {Q : VK} (h : SqX K H p xs) (e : atI xs i = some v) (q : Q v H) : Own.rIxLT K (.ref p) (.int i) H Q :=
  h.elim (fun z => .inl ⟨p, xs, i, v, rfl, rfl, z, e, q⟩) (fun z => .inr ⟨p, xs, i, v, rfl, rfl, z, e, q⟩)
theorem un2 {H : Hp} {a : Addr} {x y : V} {σ : St} {i j : Nat} {Q : St → Hp → Prop} (h : SqX K H a [x, y]) (q : Q ((σ.set i (some x)).set j (some y)) H) : gLst K 2 (gCons (gName i) (gCons (gName j) gNil)) (.ref a) σ H Q ∨ gTup K 2 (gCons (gName i) (gCons (gName j) gNil)) (.ref a) σ H Q :=
  h.elim (fun z => .inl ⟨a, _, rfl, z, rfl, _, _, rfl, _, _, rfl, rfl, q⟩) (fun z => .inr ⟨a, _, rfl, z, rfl, _, _, rfl, _, _, rfl, rfl, q⟩)
theorem un3 {H : Hp} {a : Addr} {x y w : V} {σ : St} {i j l : Nat} {Q : St → Hp → Prop} (h : SqX K H a [x, y, w]) (q : Q (((σ.set i (some x)).set j (some y)).set l (some w)) H) : gLst K 3 (gCons (gName i) (gCons (gName j) (gCons (gName l) gNil))) (.ref a) σ H Q ∨ gTup K 3 (gCons (gName i) (gCons (gName j) (gCons (gName l) gNil))) (.ref a) σ H Q :=
  h.elim (fun z => .inl ⟨a, _, rfl, z, rfl, _, _, rfl, _, _, rfl, _, _, rfl, rfl, q⟩) (fun z => .inr ⟨a, _, rfl, z, rfl, _, _, rfl, _, _, rfl, _, _, rfl, rfl, q⟩)
inductive Mom (kvs : List (Key × V)) : PyData → Prop
  | clock : Mom kvs (.str "clock")
  | edge {e n : Str} (he : e = "start" ∨ e = "done") (hn : (valV kvs (.inr n)).isSome = true) (ok : PyData.strOk n = true) : Mom kvs (.tuple [.str e, .str n])
inductive Wsh (kvs : List (Key × V)) : PyData → Prop
  | mk {a b : PyData} {m : Int} (ha : Mom kvs a) (hb : Mom kvs b) : Wsh kvs (.tuple [a, b, .int m])
def Stn (kvs : List (Key × V)) (d : PyData) : Prop := ∃ ss : List Str, d = .tuple (ss.map PyData.str) ∧ ss.Nodup ∧ 2 ≤ ss.length ∧ ss.length ≤ 64 ∧ ∀ s ∈ ss, (valV kvs (.inr s)).isSome = true
def spBounds (K : PySem.W.Frag) : Sp := fun vs H Q _ => ∃ (a : Addr) (l m : Int), vs = [.ref a] ∧ SqX K H a [.int l, .int m] ∧ 1 ≤ l ∧ l ≤ m ∧ ∀ H', Same H H' → Q (.bl true) H'
theorem ok_bounds (T : Txt K mg A) : FnOk P w K mg base CX0 2 A.a_is_bounds A.d_is_bounds P_is_bounds (spBounds K) := by
  have G_is_list : FnOk P w K mg base CX0 1 A.a_is_list A.d_is_list P_is_list (spIsList K) := ok_islist T
  have G_is_integer : FnOk P w K mg base CX0 1 A.a_is_integer A.d_is_integer P_is_integer (spIsInt K) := ok_isint T
  refine T.f_is_bounds.ok sc_is_bounds (fun vs H Q E h => ?_) (fun cdv A' outer s H vs Q E hr h => ?_)
  · obtain ⟨a, l, m, rfl, _⟩ := h
    rfl
  · obtain ⟨a, l, m, rfl, ha, h1, h2, k⟩ := h
    refine ⟨_, (pss_cons (ps_if (PW.pt (pw_or (pt_not (pt_val (pe_call G_is_list (hr.mono (by omega)) (by rfl) T.g_is_list T.f_is_list.kp T.b_is_list .nil pass0 (pa_cons (pv 0) pa_nil)))) (pw_or1 (pt_cmpR op_ne (pe_callB call_len_seq (by rfl) T.len PySem.boot_len (pa_cons (pv 0) pa_nil)) pe_int (nomark _)))))
 (pss_one (ps_ret pe_bl))
 pss_nil)
 (pss_cons (ps_asg (pv 0) (Own.pg_lt (by rfl) (pgs_cons (pg_name (i := 1) sc_is_bounds.nd rfl (Or.inl rfl)) (pgs_cons (pg_name (i := 2) sc_is_bounds.nd rfl (Or.inl rfl)) pgs_nil))))
 (pss_one (ps_ret (pe_and (pe_call G_is_integer (hr.mono (by omega)) (by rfl) T.g_is_integer T.f_is_integer.kp T.b_is_integer .nil pass0 (pa_cons (pv 1) pa_nil)) (pe_and (pe_call G_is_integer (hr.mono (by omega)) (by rfl) T.g_is_integer T.f_is_integer.kp T.b_is_integer .nil pass0 (pa_cons (pv 2) pa_nil)) (pe_one (pe_chain op_le op_le pe_int (pv 1) (pv 2))))))))), ?_⟩
    obtain ⟨d, hD, hL⟩ : ∃ d, Dp K H (.ref a) d ∧ isL d = true := ha.elim (fun q => ⟨_, .lst q (.cons (.int l) (.cons (.int m) .nil)), rfl⟩) (fun q => ⟨_, .tup q (.cons (.int l) (.cons (.int m) .nil)), rfl⟩)
    refine ⟨_, rfl, .ref a, d, rfl, hD, fun H1 s1 => ⟨_, rfl, ?_⟩⟩
    rw [hL]
    refine iteF ?_
    have ha1 := sxUp ha s1
    refine ⟨_, rfl, a, _, rfl, ha1, rfl, _, rfl, iteF ?_⟩
    refine ⟨_, rfl, un2 ha1 ?_⟩
    refine ⟨_, rfl, .int l, .int l, rfl, .int l, _, rfl, iteT ?_⟩
    refine ⟨_, rfl, .int m, .int m, rfl, .int m, _, rfl, iteT ?_⟩
    refine ⟨_, rfl, _, _, rfl, rfl, _, rfl, ite2 (fun _ => ?_) (fun q => (q (decide_eq_true h1)).elim)⟩
    refine ⟨_, rfl, _, _, rfl, rfl, ?_⟩
    show Q (.bl (decide (l ≤ m))) H1
    rw [decide_eq_true h2]
    exact k _ s1
def spMoment (K : PySem.W.Frag) : Sp := fun vs H Q _ => ∃ (x : V) (dd : Addr) (d : PyData) (kvs : List (Key × V)), vs = [x, .ref dd] ∧ Dp K H x d ∧ Mom kvs (strip d) ∧ Rd H dd (.dK kvs) ∧ ∀ H', Same H H' → Q (.bl true) H'
theorem ok_moment (T : Txt K mg A) : FnOk P w K mg base CX0 2 A.a_is_moment A.d_is_moment P_is_moment (spMoment K) := by
  have G_is_list : FnOk P w K mg base CX0 1 A.a_is_list A.d_is_list P_is_list (spIsList K) := ok_islist T
  have G_is_dish : FnOk P w K mg base CX0 1 A.a_is_dish A.d_is_dish P_is_dish (spIsDish K) := ok_isdish T
  refine T.f_is_moment.ok sc_is_moment (fun vs H Q E h => ?_) (fun cdv A' outer s H vs Q E hr h => ?_)
  · obtain ⟨x, dd, d, kvs, rfl, _⟩ := h
    rfl
  · obtain ⟨x, dd, d, kvs, rfl, hx, hm, hd, k⟩ := h
    refine ⟨_, (pss_cons (ps_if (pt_not (pt_val (pe_call G_is_list (hr.mono (by omega)) (by rfl) T.g_is_list T.f_is_list.kp T.b_is_list .nil pass0 (pa_cons (pv 0) pa_nil))))
 (pss_one (ps_ret (pe_cmpR (op_eqD hr.units) (pv 0) (pe_glob (v := .str "clock") (by rfl) T.g_CLOCK.choose_spec ⟨_, rfl⟩) (nomark _))))
 pss_nil)
 (pss_one (ps_ret (pe_and (pe_cmpR op_eq (pe_callB call_len_seq (by rfl) T.len PySem.boot_len (pa_cons (pv 0) pa_nil)) pe_int (nomark _)) (pe_and (pe_cmpR op_in_seq (pe_ix (Own.ixLtOf (K := K) rfl) (pv 0) pe_int (fun _ _ => rfl)) (pe_glob (v := .ref A.a_EDGES) (by rfl) T.g_EDGES rfl) (by rfl)) (pe_one (pe_call G_is_dish (hr.mono (by omega)) (by rfl) T.g_is_dish T.f_is_dish.kp T.b_is_dish .nil pass0 (pa_cons (pe_ix (Own.ixLtOf (K := K) rfl) (pv 0) pe_int (fun _ _ => rfl)) (pa_cons (pv 1) pa_nil))))))))), ?_⟩
    generalize hz : strip d = z at hm
    cases hm with
    | clock =>
      obtain ⟨rfl, rfl⟩ := (dp_atom hx).1 _ hz
      refine ⟨_, rfl, _, _, rfl, .str _, fun H1 s1 => ⟨_, rfl, iteT ?_⟩⟩
      exact ⟨_, rfl, _, _, .str _, .str _, by decide +kernel, by decide +kernel, k _ s1⟩
    | @edge e n he hn ok =>
      obtain ⟨a, u, v, d1, d2, rfl, hq, h1, h2, e1, e2, hL, _⟩ := dp2 hx hz
      obtain ⟨rfl, rfl⟩ := (dp_atom h1).1 _ e1
      obtain ⟨rfl, rfl⟩ := (dp_atom h2).1 _ e2
      refine ⟨_, rfl, _, _, rfl, hx, fun H1 s1 => ⟨_, rfl, ?_⟩⟩
      rw [hL]
      refine iteF ?_
      have hq1 := sxUp hq s1
      refine ⟨_, rfl, _, _, rfl, hq1, rfl, _, rfl, iteT ?_⟩
      have hE : SqT K H1 A.a_EDGES [.str "start", .str "done"] := stUp T.t_EDGES (fun _ _ z => nomatch z)
      refine ⟨_, rfl, lt_of hq1 rfl ⟨_, _, rfl, .inr hE, rfl, rfl, _, rfl, ite2 (fun _ => ?_) (fun z => (z ?_).elim)⟩⟩
      · refine ⟨_, rfl, lt_of hq1 rfl ⟨_, rfl, .str n, dd, kvs, rfl, rdUp hd s1, .inl ⟨n, rfl, ?_⟩⟩⟩
        rw [hn]
        exact k _ s1
      · rcases he with q | q <;> (subst q; decide +kernel)
end
end K5
set_option Elab.async false
set_option linter.all false
set_option maxRecDepth 100000
set_option maxHeartbeats 4000000
namespace K5
open PySem L2
local macro_rules | `(tactic| walk_at "rd1") => `(tactic| first
  | refine ⟨_, _, rfl, rfl, ?_⟩
  | refine ⟨_, _, _, _, rfl, rfl, SqL.of (by assumption), rfl, ?_⟩
  | refine ⟨_, _, _, _, rfl, rfl, (by assumption), rfl, ?_⟩
  | refine .inl ⟨_, rfl, ?_⟩
  | refine ⟨_, rfl, ?_⟩
  | refine ⟨(by unfold CMul; omega), ?_⟩
  | refine ⟨(by unfold CPow; omega), ?_⟩
  | refine ⟨(by (try dsimp only); omega), ?_⟩
  | refine ⟨(by unfold CDiv; omega), ?_⟩
  | fail "rd1")
local macro_rules | `(tactic| walk_at "rd") => `(tactic| repeat' (walk_at "rd1"))
section
variable {P : Program} {w : World} {K : PySem.W.Frag} {mg : Str → Option Value} {base : Heap} {A : Ad}
def spWish (K : PySem.W.Frag) : Sp := fun vs H Q _ => ∃ (x : V) (dd : Addr) (d : PyData) (kvs : List (Key × V)), vs = [x, .ref dd] ∧ Dp K H x d ∧ Wsh kvs (strip d) ∧ Rd H dd (.dK kvs) ∧ ∀ H', Same H H' → Q (.bl true) H'
theorem ok_wish (T : Txt K mg A) : FnOk P w K mg base CX0 3 A.a_is_wish A.d_is_wish P_is_wish (spWish K) := by
  have G_is_list : FnOk P w K mg base CX0 1 A.a_is_list A.d_is_list P_is_list (spIsList K) := ok_islist T
  have G_is_integer : FnOk P w K mg base CX0 1 A.a_is_integer A.d_is_integer P_is_integer (spIsInt K) := ok_isint T
  have G_is_moment : FnOk P w K mg base CX0 2 A.a_is_moment A.d_is_moment P_is_moment (spMoment K) := ok_moment T
  refine T.f_is_wish.ok sc_is_wish (fun vs H Q E h => ?_) (fun cdv A' outer s H vs Q E hr h => ?_)
  · obtain ⟨x, dd, d, kvs, rfl, _⟩ := h
    rfl
  · obtain ⟨x, dd, d, kvs, rfl, hx, hm, hd, k⟩ := h
    refine ⟨_, (pss_cons (ps_if (PW.pt (pw_or (pt_not (pt_val (pe_call G_is_list (hr.mono (by omega)) (by rfl) T.g_is_list T.f_is_list.kp T.b_is_list .nil pass0 (pa_cons (pv 0) pa_nil)))) (pw_or1 (pt_cmpR op_ne (pe_callB call_len_seq (by rfl) T.len PySem.boot_len (pa_cons (pv 0) pa_nil)) pe_int (nomark _)))))
 (pss_one (ps_ret pe_bl))
 pss_nil)
 (pss_cons (ps_asg (pv 0) (Own.pg_lt (by rfl) (pgs_cons (pg_name (i := 2) sc_is_wish.nd rfl (Or.inl rfl)) (pgs_cons (pg_name (i := 3) sc_is_wish.nd rfl (Or.inl rfl)) (pgs_cons (pg_name (i := 4) sc_is_wish.nd rfl (Or.inl rfl)) pgs_nil)))))
 (pss_one (ps_ret (pe_and (pe_call G_is_moment (hr.mono (by omega)) (by rfl) T.g_is_moment T.f_is_moment.kp T.b_is_moment .nil pass0 (pa_cons (pv 2) (pa_cons (pv 1) pa_nil))) (pe_and (pe_call G_is_moment (hr.mono (by omega)) (by rfl) T.g_is_moment T.f_is_moment.kp T.b_is_moment .nil pass0 (pa_cons (pv 3) (pa_cons (pv 1) pa_nil))) (pe_one (pe_call G_is_integer (hr.mono (by omega)) (by rfl) T.g_is_integer T.f_is_integer.kp T.b_is_integer .nil pass0 (pa_cons (pv 4) pa_nil))))))))), ?_⟩
    generalize hz : strip d = z at hm
    cases hm with
    | @mk p q m ha hb =>
      obtain ⟨a, u, v, t, d1, d2, d3, rfl, hq, h1, h2, h3, e1, e2, e3, hL⟩ := dp3 hx hz
      obtain ⟨rfl, rfl⟩ := (dp_atom h3).2 _ e3
      subst e1
      subst e2
      refine ⟨_, rfl, _, _, rfl, hx, fun H1 s1 => ⟨_, rfl, ?_⟩⟩
      rw [hL]
      refine iteF ?_
      have hq1 := sxUp hq s1
      refine ⟨_, rfl, _, _, rfl, hq1, rfl, _, rfl, iteF ?_⟩
      refine ⟨_, rfl, un3 hq1 ?_⟩
      refine ⟨_, rfl, _, rfl, u, dd, d1, kvs, rfl, dpSame s1 h1, ha, rdUp hd s1, fun H2 s2 => ⟨_, rfl, iteT ?_⟩⟩
      refine ⟨_, rfl, _, rfl, v, dd, d2, kvs, rfl, dpSame (s1.trans s2) h2, hb, rdUp hd (s1.trans s2), fun H3 s3 => ⟨_, rfl, iteT ?_⟩⟩
      exact ⟨_, rfl, .int m, .int m, rfl, .int m, k _ ((s1.trans s2).trans s3)⟩
def spStation (K : PySem.W.Frag) : Sp := fun vs H Q _ => ∃ (x : V) (dd : Addr) (d : PyData) (kvs : List (Key × V)), vs = [x, .ref dd] ∧ Dp K H x d ∧ Stn kvs (strip d) ∧ Rd H dd (.dK kvs) ∧ ∀ H', Same H H' → Q (.bl true) H'
theorem ok_station (T : Txt K mg A) : FnOk P w K mg base CX0 2 A.a_is_station A.d_is_station P_is_station (spStation K) := by
  have G_is_list : FnOk P w K mg base CX0 1 A.a_is_list A.d_is_list P_is_list (spIsList K) := ok_islist T
  have G_is_dish : FnOk P w K mg base CX0 1 A.a_is_dish A.d_is_dish P_is_dish (spIsDish K) := ok_isdish T
  refine T.f_is_station.ok sc_is_station (fun vs H Q E h => ?_) (fun cdv A' outer s H vs Q E hr h => ?_)
  · obtain ⟨x, dd, d, kvs, rfl, _⟩ := h
    rfl
  · obtain ⟨x, dd, d, kvs, rfl, hx, ⟨ss, hz, nd, l2, l64, hin⟩, hd, k⟩ := h
    refine ⟨_, (pss_cons (ps_if (PW.pt (pw_or (pt_not (pt_val (pe_call G_is_list (hr.mono (by omega)) (by rfl) T.g_is_list T.f_is_list.kp T.b_is_list .nil pass0 (pa_cons (pv 0) pa_nil)))) (pw_or1 (pt_cmpR op_lt (pe_callB call_len_seq (by rfl) T.len PySem.boot_len (pa_cons (pv 0) pa_nil)) pe_int (nomark _)))))
 (pss_one (ps_ret pe_bl))
 pss_nil)
 (pss_one (ps_ret (pe_and (pe_callB (cr_all rfl) (by rfl) T.all (by decide +kernel) (pa_cons (pe_lc (own := [("name", 2)]) (g := gName 2) (by rfl) sc_is_station.nd (EnT.pi_or (pi_list (pv 0)) (pi_tup (pv 0))) (blkOk_by (N := N_is_station) (sc := defScope s_is_station) (by decide +kernel)) (fun _ _ _ _ _ => pg_name (i := 2) sc_is_station.nd rfl (Or.inl rfl)) (fun _ _ _ _ _ => pts_nil) (fun _ _ _ _ _ => (pe_call G_is_dish (hr.mono (by omega)) (by rfl) T.g_is_dish T.f_is_dish.kp T.b_is_dish .nil pass0 (pa_cons (pv 2) (pa_cons (pv 1) pa_nil))))) pa_nil)) (pe_one (pe_cmpR op_eq (Own.pe_lenTexts rfl (by rfl) T.len (by rfl) T.set (pv 0)) (pe_callB call_len_seq (by rfl) T.len PySem.boot_len (pa_cons (pv 0) pa_nil)) (nomark _))))))), ?_⟩
    obtain ⟨a, xs, ds, rfl, hq, hA, e1, hL, _⟩ := dp_seq hx hz
    obtain rfl := dpAll_strs hA e1
    refine ⟨_, rfl, _, _, rfl, hx, fun H1 s1 => ⟨_, rfl, ?_⟩⟩
    rw [hL]
    refine iteF ?_
    have hq1 := sxUp hq s1
    refine ⟨_, rfl, _, _, rfl, hq1, _, _, rfl, rfl, _, rfl, ite2 (fun z => ?_) (fun _ => ?_)⟩
    · have z : ((ss.map V.str).length : Int) < 2 := of_decide_eq_true z
      rw [List.length_map] at z; omega
    refine seq_or (H0 := H1) hq1 (Same.refl _) rfl fun J G wk hG => fun D hD => lc_it wk (fun i H' => Same H1 H' ∧ H' D = some (.lst ((List.replicate i true).map V.bl))) ⟨Same.new hD, upd_same⟩ (fun i H' _ z => hG H' z.1) ?_ (fun H2 z => ?_)
    · rintro i x H' H'' hi ⟨s2, hD2⟩ ⟨rfl, hx'⟩
      obtain ⟨hi2, rfl⟩ := str_at hx'
      refine ⟨rfl, _, rfl, _, rfl, .str ss[i], dd, kvs, rfl, rdUp hd (s1.trans s2), .inl ⟨_, rfl, ?_⟩⟩
      rw [hin _ (List.getElem_mem hi2)]
      refine ⟨_, hD2, by rw [List.length_map, List.length_replicate]; exact Nat.lt_of_lt_of_le (show i < 64 by omega) (by decide), ?_, ?_⟩
      · exact fun b u e => by rw [upd_ne (ne_of_none e hD)]; exact s2 _ _ e
      · rw [upd_same, List.replicate_succ', List.map_append]; rfl
    obtain ⟨s2, hD2⟩ := z
    have S2 := s1.trans s2
    refine ⟨D, _, rfl, SqL.of hD2, ?_⟩
    rw [all_true]
    refine ⟨_, rfl, iteT ?_⟩
    refine ⟨_, rfl, a, ss, rfl, sxUp hq S2, nd, l64, _, rfl, a, _, rfl, sxUp hq S2, rfl, ?_⟩
    rw [List.length_map, decide_eq_true rfl]
    exact k _ S2
def spAsM (K : PySem.W.Frag) : Sp := fun vs H Q _ => ∃ (x : V) (d : PyData) (kvs : List (Key × V)), vs = [x] ∧ Dp K H x d ∧ Mom kvs (strip d) ∧ ∀ r H', Same H H' → Dp K H' r (strip d) → Q r H'
theorem ok_asm (T : Txt K mg A) : FnOk P w K mg base CX0 1 A.a_as_moment A.d_as_moment P_as_moment (spAsM K) := by
  refine T.f_as_moment.ok sc_as_moment (fun vs H Q E h => ?_) (fun cdv A' outer s H vs Q E hr h => ?_)
  · obtain ⟨x, d, kvs, rfl, _⟩ := h
    rfl
  · obtain ⟨x, d, kvs, rfl, hx, hm, k⟩ := h
    refine ⟨_, (pss_one (ps_ret (pe_ifExp (pt_cmpR (op_eqD hr.units) (pv 0) (pe_glob (v := .str "clock") (by rfl) T.g_CLOCK.choose_spec ⟨_, rfl⟩) (nomark _)) (pe_glob (v := .str "clock") (by rfl) T.g_CLOCK.choose_spec ⟨_, rfl⟩) (pe_callTy call_tuple_of (by rfl) T.tuple (by decide +kernel) (pa_cons (pv 0) pa_nil))))), ?_⟩
    generalize hz : strip d = z at hm k
    cases hm with
    | clock =>
      obtain ⟨rfl, rfl⟩ := (dp_atom hx).1 _ hz
      exact ⟨_, rfl, _, _, .str _, .str _, by decide +kernel, by decide +kernel, _, rfl, iteT (k _ _ (Same.refl _) (.str _))⟩
    | @edge e n he hn ok =>
      obtain ⟨a, u, v, d1, d2, rfl, hq, h1, h2, e1, e2, hL, hd⟩ := dp2 hx hz
      obtain ⟨rfl, rfl⟩ := (dp_atom h1).1 _ e1
      obtain ⟨rfl, rfl⟩ := (dp_atom h2).1 _ e2
      have he' : PyData.strOk e = true := by rcases he with q | q <;> (subst q; decide +kernel)
      have hsh : SeqAt.shaped d = true := by
        rcases hd with rfl | rfl <;> simp [SeqAt.shaped, PyData.canLay0, PyData.canLayAll0, PyData.depth, PyData.depthAll, he', ok]
      have hne : PyData.eqv d (.str "clock") = false := by
        rcases hd with rfl | rfl <;> simp [PyData.eqv]
      have fin : ∀ r H', Same H H' → SqT K H' r [.str e, .str n] → Q (.ref r) H' := fun r H' s z => k _ _ s (.tup z (.cons (.str _) (.cons (.str _) .nil)))
      refine ⟨_, rfl, _, _, hx, .str _, hsh, by decide +kernel, _, rfl, ?_⟩
      rw [hne]
      refine iteF ?_
      refine ⟨_, rfl, a, [.str e, .str n], rfl, ?_⟩
      exact hq.elim (fun z => .inl ⟨z, fun l nl => fin l _ (Same.new nl) (SqT.of upd_same)⟩) (fun z => .inr ⟨z, fin a H (Same.refl _) z⟩)
def spAsW (K : PySem.W.Frag) : Sp := fun vs H Q _ => ∃ (x : V) (d : PyData) (kvs : List (Key × V)), vs = [x] ∧ Dp K H x d ∧ Wsh kvs (strip d) ∧ ∀ r H', Same H H' → Dp K H' (.ref r) (strip d) → Q (.ref r) H'
theorem ok_asw (T : Txt K mg A) : FnOk P w K mg base CX0 2 A.a_as_wish A.d_as_wish P_as_wish (spAsW K) := by
  have G_as_moment : FnOk P w K mg base CX0 1 A.a_as_moment A.d_as_moment P_as_moment (spAsM K) := ok_asm T
  refine T.f_as_wish.ok sc_as_wish (fun vs H Q E h => ?_) (fun cdv A' outer s H vs Q E hr h => ?_)
  · obtain ⟨x, d, kvs, rfl, _⟩ := h
    rfl
  · obtain ⟨x, d, kvs, rfl, hx, hm, k⟩ := h
    refine ⟨_, (pss_cons (ps_asg (pv 0) (Own.pg_lt (by rfl) (pgs_cons (pg_name (i := 1) sc_as_wish.nd rfl (Or.inl rfl)) (pgs_cons (pg_name (i := 2) sc_as_wish.nd rfl (Or.inl rfl)) (pgs_cons (pg_name (i := 3) sc_as_wish.nd rfl (Or.inl rfl)) pgs_nil)))))
 (pss_one (ps_ret (pe_tup (pa_cons (pe_call G_as_moment (hr.mono (by omega)) (by rfl) T.g_as_moment T.f_as_moment.kp T.b_as_moment .nil pass0 (pa_cons (pv 1) pa_nil)) (pa_cons (pe_call G_as_moment (hr.mono (by omega)) (by rfl) T.g_as_moment T.f_as_moment.kp T.b_as_moment .nil pass0 (pa_cons (pv 2) pa_nil)) (pa_cons (pv 3) pa_nil))))))), ?_⟩
    generalize hz : strip d = z at hm k
    cases hm with
    | @mk p q m ha hb =>
      obtain ⟨a, u, v, t, d1, d2, d3, rfl, hq, h1, h2, h3, e1, e2, e3, hL⟩ := dp3 hx hz
      obtain ⟨rfl, rfl⟩ := (dp_atom h3).2 _ e3
      subst e1
      subst e2
      refine ⟨_, rfl, un3 hq ?_⟩
      refine ⟨_, rfl, u, d1, kvs, rfl, h1, ha, fun r1 H1 s1 D1 => ⟨_, rfl, v, d2, kvs, rfl, dpSame s1 h2, hb, fun r2 H2 s2 D2 => ⟨_, rfl, by show 3 ≤ sizeLine; decide, fun p hp => ?_⟩⟩⟩
      have s3 := (s1.trans s2).trans (Same.new hp (o := .tup [r1, r2, .int m]))
      exact k p _ s3 (.tup (SqT.of upd_same) (.cons (dpSame (s2.trans (Same.new hp)) D1) (.cons (dpSame (Same.new hp) D2) (.cons (.int m) .nil))))
end
end K5
set_option Elab.async false
set_option linter.all false
set_option maxRecDepth 100000
set_option maxHeartbeats 4000000
namespace K5
open PySem L2
local macro_rules | `(tactic| walk_at "rd1") => `(tactic| first
  | refine ⟨_, _, rfl, rfl, ?_⟩
  | refine ⟨_, _, _, _, rfl, rfl, SqL.of (by assumption), rfl, ?_⟩
  | refine ⟨_, _, _, _, rfl, rfl, (by assumption), rfl, ?_⟩
  | refine .inl ⟨_, rfl, ?_⟩
  | refine ⟨_, rfl, ?_⟩
  | refine ⟨(by unfold CMul; omega), ?_⟩
  | refine ⟨(by unfold CPow; omega), ?_⟩
  | refine ⟨(by (try dsimp only); omega), ?_⟩
  | refine ⟨(by unfold CDiv; omega), ?_⟩
  | fail "rd1")
local macro_rules | `(tactic| walk_at "rd") => `(tactic| repeat' (walk_at "rd1"))
section
variable {P : Program} {w : World} {K : PySem.W.Frag} {mg : Str → Option Value} {base : Heap} {A : Ad}
def kvF (ns : List Str) (f : Str → V) : List (Key × V) := ns.map fun n => (.inr n, f n)
theorem kvF_keys (ns : List Str) (f : Str → V) : (kvF ns f).map (·.1) = ns.map Sum.inr := by simp [kvF]
theorem kvF_len (ns : List Str) (f : Str → V) : (kvF ns f).length = ns.length := by simp [kvF]
theorem inr_nd {ns : List Str} (h : ns.Nodup) : (ns.map (Sum.inr : Str → Key)).Nodup := List.pairwise_map.mpr (h.imp fun n e => n (Sum.inr.inj e))
theorem kvF_snoc (ns : List Str) (n : Str) (f : Str → V) : kvF (ns ++ [n]) f = kvF ns f ++ [(.inr n, f n)] := by simp [kvF]
theorem kvF_at {ns : List Str} {f : Str → V} {i : Nat} {k : Key} {v : V} (h : (kvF ns f)[i]? = some (k, v)) : ∃ hi : i < ns.length, k = .inr ns[i] ∧ v = f ns[i] := by
  have hi : i < ns.length := by
    have := (List.getElem?_eq_some_iff.mp h).1
    rwa [kvF_len] at this
  unfold kvF at h
  rw [List.getElem?_map, List.getElem?_eq_getElem hi] at h
  cases h
  exact ⟨hi, rfl, rfl⟩
theorem kvF_val {ns : List Str} {f : Str → V} {n : Str} (nd : ns.Nodup) (m : n ∈ ns) : valV (kvF ns f) (.inr n) = some (f n) := by
  obtain ⟨i, hi, e⟩ := List.getElem_of_mem m
  refine valV_at (i := i) (by rw [kvF_keys]; exact inr_nd nd) ?_
  unfold kvF
  rw [List.getElem?_map, List.getElem?_eq_getElem hi, e]; rfl
structure Pr2 (K : PySem.W.Frag) (H : Hp) (ns : List Str) (f g : Str → V) (kvs : List (Key × V)) : Prop where
  keys : kvs.map (·.1) = ns.map Sum.inr
  at_ : ∀ (i : Nat) (n : Str), ns[i]? = some n → ∃ a : Addr, kvs[i]? = some (.inr n, .ref a) ∧ SqT K H a [f n, g n]
theorem Pr2.up {H H' : Hp} {ns : List Str} {f g : Str → V} {kvs : List (Key × V)} (h : Pr2 K H ns f g kvs) (s : Same H H') : Pr2 K H' ns f g kvs :=
  ⟨h.keys, fun i n e => by obtain ⟨a, e1, e2⟩ := h.at_ i n e; exact ⟨a, e1, stUp e2 s⟩⟩
theorem Pr2.er {H : Hp} {p : Addr} {u : HO} {ns : List Str} {f g : Str → V} {kvs : List (Key × V)} (h : Pr2 K H ns f g kvs) (hp : H p = some u) (hu : NoTup u) : Pr2 K (er H p) ns f g kvs :=
  ⟨h.keys, fun i n e => by obtain ⟨a, e1, e2⟩ := h.at_ i n e; exact ⟨a, e1, tupEr hp hu e2⟩⟩
theorem Pr2.set {H : Hp} {p : Addr} {u o : HO} {ns : List Str} {f g : Str → V} {kvs : List (Key × V)} (h : Pr2 K H ns f g kvs) (hp : H p = some u) (hu : NoTup u) : Pr2 K (upd H p o) ns f g kvs :=
  ⟨h.keys, fun i n e => by obtain ⟨a, e1, e2⟩ := h.at_ i n e; exact ⟨a, e1, tupSet hp hu e2⟩⟩
theorem Pr2.len {H : Hp} {ns : List Str} {f g : Str → V} {kvs : List (Key × V)} (h : Pr2 K H ns f g kvs) : kvs.length = ns.length := by
  have := congrArg List.length h.keys
  rwa [List.length_map, List.length_map] at this
theorem Pr2.nil {H : Hp} {f g : Str → V} : Pr2 K H [] f g [] := ⟨rfl, fun i n e => by simp at e⟩
theorem Pr2.snoc {H : Hp} {ns : List Str} {f g : Str → V} {kvs : List (Key × V)} {n : Str} {a : Addr} (h : Pr2 K H ns f g kvs) (ha : SqT K H a [f n, g n]) : Pr2 K H (ns ++ [n]) f g (kvs ++ [(.inr n, .ref a)]) := by
  refine ⟨by rw [List.map_append, List.map_append, h.keys]; rfl, fun i m e => ?_⟩
  rcases Nat.lt_or_ge i ns.length with lt | ge
  · rw [List.getElem?_append_left lt] at e
    rw [List.getElem?_append_left (by rw [h.len]; exact lt)]
    exact h.at_ i m e
  · rw [List.getElem?_append_right ge] at e
    rw [List.getElem?_append_right (by rw [h.len]; exact ge), h.len]
    cases e0 : i - ns.length with
    | zero => rw [e0] at e; cases e; exact ⟨a, rfl, ha⟩
    | succ j => rw [e0] at e; simp at e
theorem Pr2.get {H : Hp} {ns : List Str} {f g : Str → V} {kvs : List (Key × V)} (h : Pr2 K H ns f g kvs) {i : Nat} {k : Key} {v : V} (e : kvs[i]? = some (k, v)) : ∃ (hi : i < ns.length) (a : Addr), k = .inr ns[i] ∧ v = .ref a ∧ SqT K H a [f ns[i], g ns[i]] := by
  have hi : i < ns.length := by rw [← h.len]; exact (List.getElem?_eq_some_iff.mp e).1
  obtain ⟨a, e1, e2⟩ := h.at_ i ns[i] (List.getElem?_eq_getElem hi)
  rw [e] at e1
  cases e1
  exact ⟨hi, a, rfl, rfl, e2⟩
theorem Pr2.val {H : Hp} {ns : List Str} {f g : Str → V} {kvs : List (Key × V)} (h : Pr2 K H ns f g kvs) (nd : ns.Nodup) {n : Str} (m : n ∈ ns) : ∃ a : Addr, valV kvs (.inr n) = some (.ref a) ∧ SqT K H a [f n, g n] := by
  obtain ⟨i, hi, e⟩ := List.getElem_of_mem m
  obtain ⟨a, e1, e2⟩ := h.at_ i n (by rw [List.getElem?_eq_getElem hi, e])
  exact ⟨a, valV_at (by rw [h.keys]; exact inr_nd nd) e1, e2⟩
theorem Pr2.congr {H : Hp} {ns : List Str} {f g f' g' : Str → V} {kvs : List (Key × V)} (h : Pr2 K H ns f g kvs) (e : ∀ n ∈ ns, f n = f' n ∧ g n = g' n) : Pr2 K H ns f' g' kvs :=
  ⟨h.keys, fun i n q => by
    obtain ⟨a, e1, e2⟩ := h.at_ i n q
    obtain ⟨x, y⟩ := e n (List.mem_of_getElem? q)
    exact ⟨a, e1, by rw [← x, ← y]; exact e2⟩⟩
/-- neither a list nor a tuple -/
structure NoSq (u : HO) : Prop where
  t : NoTup u
  l : ∀ xs, u ≠ .lst xs
  f : ∀ o xs, u ≠ .frz o (.lst xs)
theorem noSq_dK (kvs : List (Key × V)) : NoSq (.dK kvs) := ⟨noTup_dK _, fun _ z => (nomatch z), fun _ _ z => (nomatch z)⟩
theorem sxEr {H : Hp} {p a : Addr} {u : HO} {xs : List V} (hp : H p = some u) (hu : NoSq u) (h : SqX K H a xs) : SqX K (er H p) a xs := by
  rcases h with h | h
  · refine .inl ?_
    rcases h with (e | ⟨o, e⟩) | k
    · exact .inl (.inl (er_of (fun z => by rw [z, hp] at e; exact hu.l _ (Option.some.inj e)) e))
    · exact .inl (.inr ⟨o, er_of (fun z => by rw [z, hp] at e; exact hu.f _ _ (Option.some.inj e)) e⟩)
    · exact .inr k
  · exact .inr (tupEr hp hu.t h)
theorem sxSet {H : Hp} {p a : Addr} {u o : HO} {xs : List V} (hp : H p = some u) (hu : NoSq u) (h : SqX K H a xs) : SqX K (upd H p o) a xs := by
  refine sxUp (sxEr hp hu h) fun b v e => ?_
  have q := er_some e
  rw [upd_ne q.1]; exact q.2
structure PrX (K : PySem.W.Frag) (H : Hp) (ns : List Str) (f g : Str → V) (kvs : List (Key × V)) : Prop where
  keys : kvs.map (·.1) = ns.map Sum.inr
  at_ : ∀ (i : Nat) (n : Str), ns[i]? = some n → ∃ a : Addr, kvs[i]? = some (.inr n, .ref a) ∧ SqX K H a [f n, g n]
theorem PrX.up {H H' : Hp} {ns : List Str} {f g : Str → V} {kvs : List (Key × V)} (h : PrX K H ns f g kvs) (s : Same H H') : PrX K H' ns f g kvs :=
  ⟨h.keys, fun i n e => by obtain ⟨a, e1, e2⟩ := h.at_ i n e; exact ⟨a, e1, sxUp e2 s⟩⟩
theorem PrX.er {H : Hp} {p : Addr} {u : HO} {ns : List Str} {f g : Str → V} {kvs : List (Key × V)} (h : PrX K H ns f g kvs) (hp : H p = some u) (hu : NoSq u) : PrX K (er H p) ns f g kvs :=
  ⟨h.keys, fun i n e => by obtain ⟨a, e1, e2⟩ := h.at_ i n e; exact ⟨a, e1, sxEr hp hu e2⟩⟩
theorem PrX.set {H : Hp} {p : Addr} {u o : HO} {ns : List Str} {f g : Str → V} {kvs : List (Key × V)} (h : PrX K H ns f g kvs) (hp : H p = some u) (hu : NoSq u) : PrX K (upd H p o) ns f g kvs :=
  ⟨h.keys, fun i n e => by obtain ⟨a, e1, e2⟩ := h.at_ i n e; exact ⟨a, e1, sxSet hp hu e2⟩⟩
theorem PrX.len {H : Hp} {ns : List Str} {f g : Str → V} {kvs : List (Key × V)} (h : PrX K H ns f g kvs) : kvs.length = ns.length := by
  have := congrArg List.length h.keys
  rwa [List.length_map, List.length_map] at this
theorem PrX.nil {H : Hp} {f g : Str → V} : PrX K H [] f g [] := ⟨rfl, fun i n e => by simp at e⟩
theorem PrX.snoc {H : Hp} {ns : List Str} {f g : Str → V} {kvs : List (Key × V)} {n : Str} {a : Addr} (h : PrX K H ns f g kvs) (ha : SqX K H a [f n, g n]) : PrX K H (ns ++ [n]) f g (kvs ++ [(.inr n, .ref a)]) := by
  refine ⟨by rw [List.map_append, List.map_append, h.keys]; rfl, fun i m e => ?_⟩
  rcases Nat.lt_or_ge i ns.length with lt | ge
  · rw [List.getElem?_append_left lt] at e
    rw [List.getElem?_append_left (by rw [h.len]; exact lt)]
    exact h.at_ i m e
  · rw [List.getElem?_append_right ge] at e
    rw [List.getElem?_append_right (by rw [h.len]; exact ge), h.len]
    cases e0 : i - ns.length with
    | zero => rw [e0] at e; cases e; exact ⟨a, rfl, ha⟩
    | succ j => rw [e0] at e; simp at e
theorem PrX.get {H : Hp} {ns : List Str} {f g : Str → V} {kvs : List (Key × V)} (h : PrX K H ns f g kvs) {i : Nat} {k : Key} {v : V} (e : kvs[i]? = some (k, v)) : ∃ (hi : i < ns.length) (a : Addr), k = .inr ns[i] ∧ v = .ref a ∧ SqX K H a [f ns[i], g ns[i]] := by
  have hi : i < ns.length := by rw [← h.len]; exact (List.getElem?_eq_some_iff.mp e).1
  obtain ⟨a, e1, e2⟩ := h.at_ i ns[i] (List.getElem?_eq_getElem hi)
  rw [e] at e1
  cases e1
  exact ⟨hi, a, rfl, rfl, e2⟩
theorem PrX.val {H : Hp} {ns : List Str} {f g : Str → V} {kvs : List (Key × V)} (h : PrX K H ns f g kvs) (nd : ns.Nodup) {n : Str} (m : n ∈ ns) : ∃ a : Addr, valV kvs (.inr n) = some (.ref a) ∧ SqX K H a [f n, g n] := by
  obtain ⟨i, hi, e⟩ := List.getElem_of_mem m
  obtain ⟨a, e1, e2⟩ := h.at_ i n (by rw [List.getElem?_eq_getElem hi, e])
  exact ⟨a, valV_at (by rw [h.keys]; exact inr_nd nd) e1, e2⟩
theorem PrX.congr {H : Hp} {ns : List Str} {f g f' g' : Str → V} {kvs : List (Key × V)} (h : PrX K H ns f g kvs) (e : ∀ n ∈ ns, f n = f' n ∧ g n = g' n) : PrX K H ns f' g' kvs :=
  ⟨h.keys, fun i n q => by
    obtain ⟨a, e1, e2⟩ := h.at_ i n q
    obtain ⟨x, y⟩ := e n (List.mem_of_getElem? q)
    exact ⟨a, e1, by rw [← x, ← y]; exact e2⟩⟩
theorem Pr2.x {H : Hp} {ns : List Str} {f g : Str → V} {kvs : List (Key × V)} (h : Pr2 K H ns f g kvs) : PrX K H ns f g kvs := ⟨h.keys, fun i n e => by obtain ⟨a, e1, e2⟩ := h.at_ i n e; exact ⟨a, e1, .inr e2⟩⟩
theorem sle_of_rising : ∀ {p : Str} {l : List Str}, PyProof.Rows.risingS p l = true → (p :: l).Pairwise sle
  | _, [], _ => List.pairwise_singleton ..
  | p, x :: r, h => by
    unfold PyProof.Rows.risingS at h
    rw [Bool.and_eq_true] at h
    have ih := sle_of_rising h.2
    have hx : sle p x := fun z => by
      have e : PySem.Spec.ltCps x.cps.toList p.cps.toList = true := by rw [PyProof.Rows.ltCps_eq]; exact decide_eq_true z
      rw [e] at h; cases h.1
    refine List.pairwise_cons.mpr ⟨fun y hy => ?_, ih⟩
    rcases List.mem_cons.mp hy with e | hy
    · rw [e]; exact hx
    · exact sle_trans hx ((List.pairwise_cons.mp ih).1 y hy)
theorem sle_sorted {l : List Str} (h : PyProof.Rows.sortedS l = true) : l.Pairwise sle := by
  cases l with
  | nil => exact List.Pairwise.nil
  | cons x r => exact sle_of_rising h
theorem sle_anti {x y : Str} (a : sle x y) (b : sle y x) : x = y := by
  obtain ⟨x⟩ := x
  obtain ⟨y⟩ := y
  have e : x.toList = y.toList := List.le_antisymm (List.not_lt.mp a) (List.not_lt.mp b)
  rw [Array.toList_inj.mp e]
theorem asc_eq {xs ys : List Str} (p : xs.Perm ys) (hx : PyProof.Rows.sortedS xs = true) (hy : ys.Pairwise sle) : xs = ys :=
  p.eq_of_pairwise (fun _ _ _ _ a b => sle_anti a b) (sle_sorted hx) hy
theorem putF_len (f : Str) (v : V) : ∀ fs : List (Str × V), (putF f v fs).length ≤ fs.length + 1
  | [] => Nat.le_refl _
  | (g, x) :: r => by
    unfold putF
    by_cases e : g = f
    · rw [if_pos e]; exact Nat.le_succ _
    · rw [if_neg e]; exact Nat.succ_le_succ (putF_len f v r)
theorem noTup_ins (C dx : Addr) (fs : List (Str × V)) : NoTup (.ins C dx fs) := ⟨fun _ z => (nomatch z), fun _ _ z => (nomatch z)⟩
theorem flds3 (x y z : V) : putF "places" z (putF "wished" y (putF "bounds" x [])) = ([("bounds", x), ("wished", y), ("places", z)] : List (Str × V)) := by
  have h1 : putF "wished" y [(("bounds" : Str), x)] = ([("bounds", x), ("wished", y)] : List (Str × V)) := by
    show (if ("bounds" : Str) = "wished" then _ else _) = _
    rw [if_neg (by decide +kernel)]; rfl
  show putF "places" z (putF "wished" y [(("bounds" : Str), x)]) = _
  rw [h1]
  show (if ("bounds" : Str) = "places" then _ else _) = _
  rw [if_neg (by decide +kernel)]
  show _ :: (if ("wished" : Str) = "places" then _ else _) = _
  rw [if_neg (by decide +kernel)]; rfl
end
end K5
set_option Elab.async false
set_option linter.all false
set_option maxRecDepth 100000
set_option maxHeartbeats 4000000
namespace K5
open PySem L2
local macro_rules | `(tactic| walk_at "rd1") => `(tactic| first
  | refine ⟨_, _, rfl, rfl, ?_⟩
  | refine ⟨_, _, _, _, rfl, rfl, SqL.of (by assumption), rfl, ?_⟩
  | refine ⟨_, _, _, _, rfl, rfl, (by assumption), rfl, ?_⟩
  | refine .inl ⟨_, rfl, ?_⟩
  | refine ⟨_, rfl, ?_⟩
  | refine ⟨(by unfold CMul; omega), ?_⟩
  | refine ⟨(by unfold CPow; omega), ?_⟩
  | refine ⟨(by (try dsimp only); omega), ?_⟩
  | refine ⟨(by unfold CDiv; omega), ?_⟩
  | fail "rd1")
local macro_rules | `(tactic| walk_at "rd") => `(tactic| repeat' (walk_at "rd1"))
section
variable {P : Program} {w : World} {K : PySem.W.Frag} {mg : Str → Option Value} {base : Heap} {A : Ad}
structure Grow (K : PySem.W.Frag) (p : Addr) (H H' : Hp) (ds : List PyData) : Prop where
  ex : ∃ vs, H' p = some (.lst vs) ∧ DpAll K (er H' p) vs ds
  same : Same H (er H' p)
theorem Grow.start {p : Addr} {H : Hp} (hp : H p = none) : Grow K p H (upd H p (.lst [])) [] :=
  ⟨⟨[], upd_same, .nil⟩, fun b o e => by rw [er_upd]; exact er_of (ne_of_none e hp) e⟩
theorem Grow.up {p : Addr} {H H' H2 : Hp} {ds : List PyData} (g : Grow K p H H' ds) (s : Same H' H2) : Grow K p H H2 ds := by
  obtain ⟨vs, h1, h2⟩ := g.ex
  exact ⟨⟨vs, s _ _ h1, dpAllSame (er_mono s) h2⟩, g.same.trans (er_mono s)⟩
theorem dpAllApp {H : Hp} : ∀ {vs : List V} {ds : List PyData} {v : V} {d : PyData}, DpAll K H vs ds → Dp K H v d → DpAll K H (vs ++ [v]) (ds ++ [d])
  | _, _, _, _, .nil, h => .cons h .nil
  | _, _, _, _, .cons a b, h => .cons a (dpAllApp b h)
theorem Grow.app {p : Addr} {H H' : Hp} {ds : List PyData} {vs : List V} {v : V} {d : PyData} (g : Grow K p H H' ds) (hp : H' p = some (.lst vs)) (hv : Dp K (er H' p) v d) : Grow K p H (upd H' p (.lst (vs ++ [v]))) (ds ++ [d]) := by
  obtain ⟨vs', h1, h2⟩ := g.ex
  rw [hp] at h1
  cases h1
  exact ⟨⟨_, upd_same, by rw [er_upd]; exact dpAllApp h2 hv⟩, by rw [er_upd]; exact g.same⟩
theorem Grow.dp {p : Addr} {H H' : Hp} {ds : List PyData} (g : Grow K p H H' ds) : Dp K H' (.ref p) (.list ds) := by
  obtain ⟨vs, h1, h2⟩ := g.ex
  exact .lst (SqL.of h1) (dpAllSame (er_same _ _) h2)
/-- a dict of dishes: each key a name, each value a list or a tuple of bounds -/
structure DOk (K : PySem.W.Frag) (H : Hp) (kvs : List (Key × V)) : Prop where
  nd : (kvs.map (·.1)).Nodup
  each : ∀ (i : Nat) (k : Key) (v : V), kvs[i]? = some (k, v) → ∃ (s : Str) (a : Addr) (l m : Int), k = .inr s ∧ Nm s ∧ PyData.strOk s = true ∧ v = .ref a ∧ SqX K H a [.int l, .int m] ∧ 1 ≤ l ∧ l ≤ m
def spChkD (K : PySem.W.Frag) : Sp := fun vs H Q _ => ∃ (dd : Addr) (kvs : List (Key × V)), vs = [.ref dd] ∧ H dd = some (.dK kvs) ∧ DOk K (er H dd) kvs ∧ ∀ H', Same H H' → Q .non H'
def spChkW (K : PySem.W.Frag) : Sp := fun vs H Q _ => ∃ (a dd : Addr) (xs : List V) (ds : List PyData) (kvs : List (Key × V)), vs = [.ref a, .ref dd] ∧ SqX K H a xs ∧ DpAll K H xs ds ∧ (∀ d ∈ ds, Wsh kvs (strip d)) ∧ Rd H dd (.dK kvs) ∧ ∀ H', Same H H' → Q .non H'
def spChkS (K : PySem.W.Frag) : Sp := fun vs H Q _ => ∃ (a dd : Addr) (xs : List V) (ds : List PyData) (kvs : List (Key × V)), vs = [.ref a, .ref dd] ∧ SqX K H a xs ∧ DpAll K H xs ds ∧ (∀ d ∈ ds, Stn kvs (strip d)) ∧ Rd H dd (.dK kvs) ∧ ∀ H', Same H H' → Q .non H'
theorem dpX {H : Hp} {a : Addr} {xs : List V} {ds : List PyData} (h : SqX K H a xs) (hA : DpAll K H xs ds) : ∃ d, Dp K H (.ref a) d ∧ isL d = true :=
  h.elim (fun q => ⟨_, .lst q hA, rfl⟩) (fun q => ⟨_, .tup q hA, rfl⟩)
theorem ok_chkd (T : Txt K mg A) : FnOk P w K mg base CX0 3 A.a_check_dishes A.d_check_dishes P_check_dishes (spChkD K) := by
  have G_is_name : FnOk P w K mg base CX0 1 A.a_is_name A.d_is_name P_is_name spIsName := ok_isname T
  have G_is_bounds : FnOk P w K mg base CX0 2 A.a_is_bounds A.d_is_bounds P_is_bounds (spBounds K) := ok_bounds T
  refine T.f_check_dishes.ok sc_check_dishes (fun vs H Q E h => ?_) (fun cdv A' outer s H vs Q E hr h => ?_)
  · obtain ⟨dd, kvs, rfl, _⟩ := h
    rfl
  · obtain ⟨dd, kvs, rfl, hd, hO, k⟩ := h
    refine ⟨_, (pss_one (ps_lock (ps_for PassesOwn.never rfl (pi_keys (pv 0)) (pg_name (i := 1) sc_check_dishes.nd rfl (Or.inl rfl))
 (pss_one (ps_if (PW.pt (pw_or (pt_not (pt_val (pe_call G_is_name (hr.mono (by omega)) (by rfl) T.g_is_name T.f_is_name.kp T.b_is_name .nil pass0 (pa_cons (pv 1) pa_nil)))) (pw_or1 (pt_not (pt_val (pe_call G_is_bounds (hr.mono (by omega)) (by rfl) T.g_is_bounds T.f_is_bounds.kp T.b_is_bounds .nil pass0 (pa_cons (pe_dget (hu_of hr) (pv 0) (pv 1) (fun _ _ => rfl)) pa_nil)))))))
 (pss_one ps_never)
 pss_nil))))), ?_⟩
    refine ⟨dd, _, hd, trivial, fun od => ?_⟩
    have sE : Same (er H dd) (upd H dd (.frz od (.dK kvs))) := fun b u e => by rw [upd_ne (er_some e).1]; exact (er_some e).2
    refine ⟨_, rfl, dd, od, rfl, .inl ⟨kvs, upd_same, for_it walk_keys (fun i σ' H' => ∃ x, σ' = [some (.ref dd), x] ∧ Same (upd H dd (.frz od (.dK kvs))) H') ⟨none, rfl, Same.refl _⟩ (fun i σ' H' _ ⟨_, _, s⟩ => s _ _ upd_same) ?_ ?_⟩⟩
    · rintro i x σ' H' H'' hi ⟨y, rfl, s1⟩ ⟨rfl, key, v, hk, rfl⟩
      obtain ⟨z, a, l, m, rfl, hN, _, rfl, ha, hb1, hb2⟩ := hO.each i _ _ hk
      refine ⟨_, rfl, z, rfl, hN, fun H2 s2 => ⟨_, rfl, iteF ?_⟩⟩
      have hd2 : H2 dd = some (.frz od (.dK kvs)) := s2 _ _ (s1 _ _ upd_same)
      have ha2 := sxUp ha (sE.trans (s1.trans s2))
      refine ⟨_, rfl, _, rfl, dd, .ref a, rfl, .inl ⟨kvs, .inr z, .inr ⟨od, hd2⟩, rfl, (valV_at hO.nd hk).symm⟩, a, l, m, rfl, ha2, hb1, hb2, fun H3 s3 => ⟨_, rfl, iteF ?_⟩⟩
      exact ⟨_, rfl, (s1.trans s2).trans s3⟩
    · rintro σ' H' ⟨x, rfl, s1⟩
      refine ⟨s1 _ _ upd_same, k _ fun b u e => ?_⟩
      by_cases hb : b = dd
      · subst hb
        rw [hd] at e
        cases e
        exact upd_same
      · rw [upd_ne hb]
        exact s1 _ _ (by rw [upd_ne hb]; exact e)
theorem ok_chkw (T : Txt K mg A) : FnOk P w K mg base CX0 4 A.a_check_wishes A.d_check_wishes P_check_wishes (spChkW K) := by
  have G_is_list : FnOk P w K mg base CX0 1 A.a_is_list A.d_is_list P_is_list (spIsList K) := ok_islist T
  have G_is_wish : FnOk P w K mg base CX0 3 A.a_is_wish A.d_is_wish P_is_wish (spWish K) := ok_wish T
  refine T.f_check_wishes.ok sc_check_wishes (fun vs H Q E h => ?_) (fun cdv A' outer s H vs Q E hr h => ?_)
  · obtain ⟨a, dd, xs, ds, kvs, rfl, _⟩ := h
    rfl
  · obtain ⟨a, dd, xs, ds, kvs, rfl, ha, hA, hW, hd, k⟩ := h
    refine ⟨_, (pss_cons (ps_if (pt_not (pt_val (pe_call G_is_list (hr.mono (by omega)) (by rfl) T.g_is_list T.f_is_list.kp T.b_is_list .nil pass0 (pa_cons (pv 0) pa_nil))))
 (pss_one ps_never)
 pss_nil)
 (pss_one (ps_for PassesOwn.never rfl (EnT.pi_or (pi_enum (by rfl) T.enumerate (pa_cons (pv 0) pa_nil)) (EnT.pi_enumT (by rfl) T.enumerate (pa_cons (pv 0) pa_nil))) (pg_tup (by rfl) (pgs_cons (pg_name (i := 2) sc_check_wishes.nd rfl (Or.inl rfl)) (pgs_cons (pg_name (i := 3) sc_check_wishes.nd rfl (Or.inl rfl)) pgs_nil)))
 (pss_one (ps_if (pt_not (pt_val (pe_call G_is_wish (hr.mono (by omega)) (by rfl) T.g_is_wish T.f_is_wish.kp T.b_is_wish .nil pass0 (pa_cons (pv 3) (pa_cons (pv 1) pa_nil)))))
 (pss_one ps_never)
 pss_nil))))), ?_⟩
    obtain ⟨d, hD, hL⟩ := dpX ha hA
    refine ⟨_, rfl, _, d, rfl, hD, fun H1 s1 => ⟨_, rfl, ?_⟩⟩
    rw [hL]
    refine iteF ?_
    refine enum_or ha s1 rfl fun J G wk hG => for_it wk (fun i σ' H' => ∃ x y, σ' = [some (.ref a), some (.ref dd), x, y] ∧ Same H H') ⟨none, none, rfl, s1⟩ (fun i σ' H' _ ⟨_, _, _, s⟩ => hG H' s) ?_ ?_
    · rintro i x σ' H' H'' hi ⟨_, _, rfl, s2⟩ ⟨Tt, u, v, rfl, hT, rfl, hu, hv⟩
      have eu : u = .int (i : Nat) := (Option.some.inj hu).symm
      subst eu
      obtain ⟨d', hd1, hd2⟩ := dpGet hA hv
      have s3 : Same H (upd H' Tt (.tup [.int (i : Nat), v])) := s2.trans (Same.new hT)
      refine ⟨Tt, _, rfl, SqT.of upd_same, rfl, _, _, rfl, _, _, rfl, rfl, ?_⟩
      refine ⟨_, rfl, _, rfl, v, dd, d', kvs, rfl, dpSame s3 hd2, hW d' (List.mem_of_getElem? hd1), rdUp hd s3, fun H4 s4 => ⟨_, rfl, iteF ?_⟩⟩
      exact ⟨_, _, rfl, s3.trans s4⟩
    · rintro σ' H' ⟨_, _, rfl, s2⟩
      exact k _ s2
theorem ok_chks (T : Txt K mg A) : FnOk P w K mg base CX0 3 A.a_check_stations A.d_check_stations P_check_stations (spChkS K) := by
  have G_is_list : FnOk P w K mg base CX0 1 A.a_is_list A.d_is_list P_is_list (spIsList K) := ok_islist T
  have G_is_station : FnOk P w K mg base CX0 2 A.a_is_station A.d_is_station P_is_station (spStation K) := ok_station T
  refine T.f_check_stations.ok sc_check_stations (fun vs H Q E h => ?_) (fun cdv A' outer s H vs Q E hr h => ?_)
  · obtain ⟨a, dd, xs, ds, kvs, rfl, _⟩ := h
    rfl
  · obtain ⟨a, dd, xs, ds, kvs, rfl, ha, hA, hW, hd, k⟩ := h
    refine ⟨_, (pss_cons (ps_if (pt_not (pt_val (pe_call G_is_list (hr.mono (by omega)) (by rfl) T.g_is_list T.f_is_list.kp T.b_is_list .nil pass0 (pa_cons (pv 0) pa_nil))))
 (pss_one ps_never)
 pss_nil)
 (pss_one (ps_for PassesOwn.never rfl (EnT.pi_or (pi_enum (by rfl) T.enumerate (pa_cons (pv 0) pa_nil)) (EnT.pi_enumT (by rfl) T.enumerate (pa_cons (pv 0) pa_nil))) (pg_tup (by rfl) (pgs_cons (pg_name (i := 2) sc_check_stations.nd rfl (Or.inl rfl)) (pgs_cons (pg_name (i := 3) sc_check_stations.nd rfl (Or.inl rfl)) pgs_nil)))
 (pss_one (ps_if (pt_not (pt_val (pe_call G_is_station (hr.mono (by omega)) (by rfl) T.g_is_station T.f_is_station.kp T.b_is_station .nil pass0 (pa_cons (pv 3) (pa_cons (pv 1) pa_nil)))))
 (pss_one ps_never)
 pss_nil))))), ?_⟩
    obtain ⟨d, hD, hL⟩ := dpX ha hA
    refine ⟨_, rfl, _, d, rfl, hD, fun H1 s1 => ⟨_, rfl, ?_⟩⟩
    rw [hL]
    refine iteF ?_
    refine enum_or ha s1 rfl fun J G wk hG => for_it wk (fun i σ' H' => ∃ x y, σ' = [some (.ref a), some (.ref dd), x, y] ∧ Same H H') ⟨none, none, rfl, s1⟩ (fun i σ' H' _ ⟨_, _, _, s⟩ => hG H' s) ?_ ?_
    · rintro i x σ' H' H'' hi ⟨_, _, rfl, s2⟩ ⟨Tt, u, v, rfl, hT, rfl, hu, hv⟩
      have eu : u = .int (i : Nat) := (Option.some.inj hu).symm
      subst eu
      obtain ⟨d', hd1, hd2⟩ := dpGet hA hv
      have s3 : Same H (upd H' Tt (.tup [.int (i : Nat), v])) := s2.trans (Same.new hT)
      refine ⟨Tt, _, rfl, SqT.of upd_same, rfl, _, _, rfl, _, _, rfl, rfl, ?_⟩
      refine ⟨_, rfl, _, rfl, v, dd, d', kvs, rfl, dpSame s3 hd2, hW d' (List.mem_of_getElem? hd1), rdUp hd s3, fun H4 s4 => ⟨_, rfl, iteF ?_⟩⟩
      exact ⟨_, _, rfl, s3.trans s4⟩
    · rintro σ' H' ⟨_, _, rfl, s2⟩
      exact k _ s2
end
end K5
set_option Elab.async false
set_option linter.all false
set_option maxRecDepth 100000
set_option maxHeartbeats 4000000
namespace K5
open PySem L2
local macro_rules | `(tactic| walk_at "rd1") => `(tactic| first
  | refine ⟨_, _, rfl, rfl, ?_⟩
  | refine ⟨_, _, _, _, rfl, rfl, SqL.of (by assumption), rfl, ?_⟩
  | refine ⟨_, _, _, _, rfl, rfl, (by assumption), rfl, ?_⟩
  | refine .inl ⟨_, rfl, ?_⟩
  | refine ⟨_, rfl, ?_⟩
  | refine ⟨(by unfold CMul; omega), ?_⟩
  | refine ⟨(by unfold CPow; omega), ?_⟩
  | refine ⟨(by (try dsimp only); omega), ?_⟩
  | refine ⟨(by unfold CDiv; omega), ?_⟩
  | fail "rd1")
local macro_rules | `(tactic| walk_at "rd") => `(tactic| repeat' (walk_at "rd1"))
section
variable {P : Program} {w : World} {K : PySem.W.Frag} {mg : Str → Option Value} {base : Heap} {A : Ad}
def rTupOf (K : PySem.W.Frag) : List V → Hp → VK → Prop := fun us H Q => ∃ b zs, us = [.ref b] ∧ ((SqL K H b zs ∧ ∀ l, H l = none → Q (.ref l) (upd H l (.tup zs))) ∨ (SqT K H b zs ∧ Q (.ref b) H))
theorem tupOf {X : Cx} {K : PySem.W.Frag} (h : X.K = K) : CallR X (.type "tuple") (rTupOf K) := h ▸ call_tuple_of
mutual
def tp : PyData → Bool
  | .list _ => false
  | .tuple xs => tpAll xs
  | _ => true
def tpAll : List PyData → Bool
  | [] => true
  | d :: ds => tp d && tpAll ds
end
mutual
theorem tp_strip : ∀ d : PyData, tp (strip d) = true
  | .list xs => by simp only [strip, tp]; exact tp_stripAll xs
  | .tuple xs => by simp only [strip, tp]; exact tp_stripAll xs
  | .none => by simp [strip, tp]
  | .bool b => by simp [strip, tp]
  | .int i => by simp [strip, tp]
  | .str s => by simp [strip, tp]
  | .dict kvs => by simp [strip, tp]
theorem tp_stripAll : ∀ ds : List PyData, tpAll (stripAll ds) = true
  | [] => rfl
  | d :: ds => by simp only [stripAll, tpAll, Bool.and_eq_true]; exact ⟨tp_strip d, tp_stripAll ds⟩
end
mutual
theorem dpMov {H H' : Hp} (f : ∀ a xs, SqT K H a xs → SqT K H' a xs) : ∀ {v : V} {d : PyData}, Dp K H v d → tp d = true → Dp K H' v d
  | _, _, .non, _ => .non
  | _, _, .bl b, _ => .bl b
  | _, _, .int i, _ => .int i
  | _, _, .str s, _ => .str s
  | _, _, .lst _ _, e => by simp [tp] at e
  | _, _, .tup h q, e => .tup (f _ _ h) (dpAllMov f q (by simpa [tp] using e))
theorem dpAllMov {H H' : Hp} (f : ∀ a xs, SqT K H a xs → SqT K H' a xs) : ∀ {vs : List V} {ds : List PyData}, DpAll K H vs ds → tpAll ds = true → DpAll K H' vs ds
  | _, _, .nil, _ => .nil
  | _, _, .cons a b, e => by
    simp only [tpAll, Bool.and_eq_true] at e
    exact .cons (dpMov f a e.1) (dpAllMov f b e.2)
end
theorem dpEr {H : Hp} {D : Addr} {u : HO} {v : V} {d : PyData} (hD : H D = some u) (hu : NoTup u) (h : Dp K H v d) (e : tp d = true) : Dp K (er H D) v d := dpMov (fun _ _ => tupEr hD hu) h e
theorem dpAllEr {H : Hp} {D : Addr} {u : HO} {vs : List V} {ds : List PyData} (hD : H D = some u) (hu : NoTup u) (h : DpAll K H vs ds) (e : tpAll ds = true) : DpAll K (er H D) vs ds := dpAllMov (fun _ _ => tupEr hD hu) h e
/-- a meal at p -/
structure MlAt (K : PySem.W.Frag) (C : Addr) (H : Hp) (p : Addr) (ys : List Str) (lo hi : Str → Int) (ds es : List PyData) : Prop where
  ex : ∃ (dx qb qw qp : Addr) (kvs : List (Key × V)) (ws ps : List V), H p = some (.ins C dx [("bounds", .ref qb), ("wished", .ref qw), ("places", .ref qp)]) ∧ H qb = some (.dK kvs) ∧ Pr2 K H ys (fun n => .int (lo n)) (fun n => .int (hi n)) kvs ∧ SqT K H qw ws ∧ DpAll K H ws ds ∧ SqT K H qp ps ∧ DpAll K H ps es
theorem MlAt.up {C : Addr} {H H' : Hp} {p : Addr} {ys : List Str} {lo hi : Str → Int} {ds es : List PyData} (h : MlAt K C H p ys lo hi ds es) (s : Same H H') : MlAt K C H' p ys lo hi ds es := by
  obtain ⟨dx, qb, qw, qp, kvs, ws, ps, h1, h2, h3, h4, h5, h6, h7⟩ := h.ex
  exact ⟨dx, qb, qw, qp, kvs, ws, ps, s _ _ h1, s _ _ h2, h3.up s, stUp h4 s, dpAllSame s h5, stUp h6 s, dpAllSame s h7⟩
/-- H2 keeps all of H' but lists, and dicts that were in H -/
def KeepM (H H' H2 : Hp) : Prop := ∀ b u, H' b = some u → (∀ xs, u ≠ .lst xs) → (∀ kvs, u = .dK kvs → H b = none) → H2 b = some u
theorem KeepM.refl {H H' : Hp} : KeepM H H' H' := fun _ _ e _ _ => e
theorem KeepM.tup {H H' H2 : Hp} (k : KeepM H H' H2) {a : Addr} {xs : List V} (h : SqT K H' a xs) : SqT K H2 a xs := by
  rcases h with (h | ⟨o, h⟩) | h
  · exact .inl (.inl (k _ _ h (fun _ z => nomatch z) (fun _ z => nomatch z)))
  · exact .inl (.inr ⟨o, k _ _ h (fun _ z => nomatch z) (fun _ z => nomatch z)⟩)
  · exact .inr h
theorem Pr2.mov {H H' : Hp} {ns : List Str} {f g : Str → V} {kvs : List (Key × V)} (m : ∀ a xs, SqT K H a xs → SqT K H' a xs) (h : Pr2 K H ns f g kvs) : Pr2 K H' ns f g kvs := ⟨h.keys, fun i n e => by
  obtain ⟨a, e1, e2⟩ := h.at_ i n e
  exact ⟨a, e1, m _ _ e2⟩⟩
def spInit (K : PySem.W.Frag) (C : Addr) : Sp := fun vs H Q _ => ∃ (p dx dd a s0 : Addr) (kvs : List (Key × V)) (ks : List Str) (lo hi : Str → Int) (xs : List V) (ds : List PyData) (zs : List V) (es : List PyData), vs = [.ref p, .ref dd, .ref a, .ref s0] ∧ H p = some (.ins C dx []) ∧
  H dd = some (.dK kvs) ∧ PrX K H ks (fun n => .int (lo n)) (fun n => .int (hi n)) kvs ∧ ks.Nodup ∧ (∀ n ∈ ks, (Nm n ∧ PyData.strOk n = true) ∧ 1 ≤ lo n ∧ lo n ≤ hi n) ∧ ks.length < 64 ∧ SqX K (er H p) a xs ∧ DpAll K (er H p) xs ds ∧ ds.length ≤ 1000 ∧ (∀ d ∈ ds, Wsh kvs (strip d)) ∧ SqX K (er H p) s0 zs ∧ DpAll K (er H p) zs es ∧ es.length ≤ 1000 ∧ (∀ d ∈ es, Stn kvs (strip d)) ∧
  ∀ (H' : Hp) (ys : List Str), (∀ H2, KeepM H H' H2 → MlAt K C H2 p ys lo hi (stripAll ds) (stripAll es)) → ys.Perm ks → PyProof.Rows.sortedS ys = true → Same (er H p) (er H' p) → Q .non H'
theorem ok_init (T : Txt K mg A) : FnOk P w K mg base CX0 5 A.a_Meal___init__ A.d_Meal___init__ P_Meal___init__ (spInit K A.a_Meal) := by
  have G_check_dishes : FnOk P w K mg base CX0 3 A.a_check_dishes A.d_check_dishes P_check_dishes (spChkD K) := ok_chkd T
  have G_check_wishes : FnOk P w K mg base CX0 4 A.a_check_wishes A.d_check_wishes P_check_wishes (spChkW K) := ok_chkw T
  have G_check_stations : FnOk P w K mg base CX0 3 A.a_check_stations A.d_check_stations P_check_stations (spChkS K) := ok_chks T
  have G_as_wish : FnOk P w K mg base CX0 2 A.a_as_wish A.d_as_wish P_as_wish (spAsW K) := ok_asw T
  refine T.f_Meal___init__.ok sc_Meal___init__ (fun vs H Q E h => ?_) (fun cdv A' outer s H vs Q E hr h => ?_)
  · obtain ⟨p, dx, dd, a, s0, kvs, ks, lo, hi, xs, ds, zs, es, rfl, _⟩ := h
    rfl
  · obtain ⟨p, dx, dd, a, s0, kvs, ks, lo, hi, xs, ds, zs, es, rfl, hp, hd, hP, kN, hB, hk64, ha, hA, hlen, hW, hs0, hZ, hzlen, hS, k⟩ := h
    refine ⟨_, PSs.nox (pss_cons (ps_expr (pe_call G_check_dishes (hr.mono (by omega)) (by rfl) T.g_check_dishes T.f_check_dishes.kp T.b_check_dishes .nil pass0 (pa_cons (pv 1) pa_nil)))
 (pss_cons (ps_expr (pe_call G_check_wishes (hr.mono (by omega)) (by rfl) T.g_check_wishes T.f_check_wishes.kp T.b_check_wishes .nil pass0 (pa_cons (pv 2) (pa_cons (pv 1) pa_nil))))
 (pss_cons (ps_expr (pe_call G_check_stations (hr.mono (by omega)) (by rfl) T.g_check_stations T.f_check_stations.kp T.b_check_stations .nil pass0 (pa_cons (pv 3) (pa_cons (pv 1) pa_nil))))
 (pss_cons (ps_fld (pv 0) (pe_dc (own := [("name", 4)]) (g := gName 4) (by rfl) sc_Meal___init__.nd (pi_list (pe_callB (call_sortedD rfl) (by rfl) T.sorted (by decide +kernel) (pa_cons (pv 1) pa_nil))) (blkOk_by (N := N_Meal___init__) (sc := defScope s_Meal___init__) (by decide +kernel)) (fun _ _ _ _ _ => pg_name (i := 4) sc_Meal___init__.nd rfl (Or.inl rfl)) (fun _ _ _ _ _ => pts_nil) (fun _ _ _ _ _ => (pv 4)) (fun _ _ _ _ _ => (pe_callTy (tupOf (K := K) rfl) (by rfl) T.tuple (by decide +kernel) (pa_cons (pe_dget (hu_of hr) (pv 1) (pv 4) (fun _ _ => rfl)) pa_nil)))) rfl)
 (pss_cons (ps_fld (pv 0) (pe_callTy call_tuple_of (by rfl) T.tuple (by decide +kernel) (pa_cons (pe_lc (own := [("wish", 5)]) (g := gName 5) (by rfl) sc_Meal___init__.nd (EnT.pi_or (pi_list (pv 2)) (pi_tup (pv 2))) (blkOk_by (N := N_Meal___init__) (sc := defScope s_Meal___init__) (by decide +kernel)) (fun _ _ _ _ _ => pg_name (i := 5) sc_Meal___init__.nd rfl (Or.inl rfl)) (fun _ _ _ _ _ => pts_nil) (fun _ _ _ _ _ => (pe_call G_as_wish (hr.mono (by omega)) (by rfl) T.g_as_wish T.f_as_wish.kp T.b_as_wish .nil pass0 (pa_cons (pv 5) pa_nil)))) pa_nil)) rfl)
 (pss_one (ps_fld (pv 0) (pe_callTy call_tuple_of (by rfl) T.tuple (by decide +kernel) (pa_cons (pe_lc (own := [("station", 6)]) (g := gName 6) (by rfl) sc_Meal___init__.nd (EnT.pi_or (pi_list (pv 3)) (pi_tup (pv 3))) (blkOk_by (N := N_Meal___init__) (sc := defScope s_Meal___init__) (by decide +kernel)) (fun _ _ _ _ _ => pg_name (i := 6) sc_Meal___init__.nd rfl (Or.inl rfl)) (fun _ _ _ _ _ => pts_nil) (fun _ _ _ _ _ => (pe_callTy (tupOf (K := K) rfl) (by rfl) T.tuple (by decide +kernel) (pa_cons (pv 6) pa_nil)))) pa_nil)) rfl))))))), ?_⟩
    have hks := hP.keys
    have hO : DOk K (er H dd) kvs := ⟨by rw [hks]; exact inr_nd kN, fun i k v e => by
      obtain ⟨hi1, b, rfl, rfl, e2⟩ := hP.get e
      obtain ⟨⟨q1, q2⟩, q3, q4⟩ := hB _ (List.getElem_mem hi1)
      exact ⟨_, b, _, _, rfl, q1, q2, rfl, sxEr hd (noSq_dK _) e2, q3, q4⟩⟩
    have npd : dd ≠ p := ne_of hd hp (fun z => nomatch z)
    refine ⟨_, rfl, dd, kvs, rfl, hd, hO, fun H1 s1 => ?_⟩
    refine ⟨_, rfl, _, rfl, a, dd, xs, ds, kvs, rfl, sxUp ha ((er_same _ _).trans s1), dpAllSame ((er_same _ _).trans s1) hA, hW, .inl (s1 _ _ hd), fun H2 s2 => ?_⟩
    refine ⟨_, rfl, _, rfl, s0, dd, zs, es, kvs, rfl, sxUp hs0 (((er_same _ _).trans s1).trans s2), dpAllSame (((er_same _ _).trans s1).trans s2) hZ, hS, .inl ((s1.trans s2) _ _ hd), fun H3 s3 => ?_⟩
    have S3 : Same H H3 := (s1.trans s2).trans s3
    have hd3 := S3 _ _ hd
    have hp3 := S3 _ _ hp
    -- self.bounds
    refine ⟨_, rfl, dd, kvs, ks, rfl, .inl hd3, hks, hk64, fun ys q hperm hsort hq => ?_⟩
    have yN : ys.Nodup := hperm.nodup_iff.mpr kN
    refine ⟨q, rfl, ⟨_, SqL.of upd_same⟩, fun D hD => fillD walk_list (fun i H' => Same (upd H3 q (.lst (ys.map V.str))) H' ∧ ∃ kk, H' D = some (.dK kk) ∧ Pr2 K H' (ys.take i) (fun n => .int (lo n)) (fun n => .int (hi n)) kk) ⟨Same.new hD, [], upd_same, Pr2.nil⟩ (fun i H' _ h => SqL.of (h.1 _ _ upd_same)) ?_ (fun H4 h4 => ?_)⟩
    · rintro i x H' H'' hi1 ⟨s4, kk, hkk, hkl⟩ ⟨rfl, hx⟩
      obtain ⟨hi1, rfl⟩ := str_at hx
      have hm : ys[i] ∈ ks := hperm.mem_iff.mp (List.getElem_mem hi1)
      obtain ⟨b, hv, hb⟩ := hP.val kN hm
      have S4 : Same H H'' := S3.trans ((Same.new hq).trans s4)
      have hyl : i < 64 := by have := hperm.length_eq; omega
      have hkn : (Sum.inr ys[i] : Key) ∉ kk.map (·.1) := by
        rw [hkl.keys]
        intro m
        obtain ⟨z, hz, ez⟩ := List.mem_map.mp m
        exact not_in_take yN hi1 (by rw [← Sum.inr.inj ez]; exact hz)
      have e1 : ys.take (i + 1) = ys.take i ++ [ys[i]] := by rw [List.take_succ, List.getElem?_eq_getElem hi1]; rfl
      have fin : ∀ r H5, Same H'' H5 → SqT K H5 r [.int (lo ys[i]), .int (hi ys[i])] → Same (upd H3 q (.lst (ys.map V.str))) (upd H5 D (.dK (putK kk (.inr ys[i]) (.ref r)))) ∧ ∃ k2, upd H5 D (.dK (putK kk (.inr ys[i]) (.ref r))) D = some (.dK k2) ∧ Pr2 K (upd H5 D (.dK (putK kk (.inr ys[i]) (.ref r)))) (ys.take (i + 1)) (fun n => .int (lo n)) (fun n => .int (hi n)) k2 := fun r H5 s5 hr5 => by
        refine ⟨fun c u e => by rw [upd_ne (ne_of_none e hD)]; exact s5 _ _ (s4 _ _ e), ?_⟩
        have hk5 := s5 _ _ hkk
        rw [put_new _ _ _ hkn]
        refine ⟨_, upd_same, ?_⟩
        rw [e1]
        exact ((hkl.up s5).set hk5 (noTup_dK _)).snoc (tupSet hk5 (noTup_dK _) hr5)
      have fl : kk.length < sizeLine := by
        rw [hkl.len, List.length_take]
        exact Nat.lt_of_le_of_lt (show min i _ ≤ 64 by omega) (by decide)
      refine ⟨rfl, _, rfl, _, rfl, _, rfl, dd, .ref b, rfl, .inl ⟨kvs, .inr ys[i], .inl (S4 _ _ hd), rfl, hv.symm⟩, b, [.int (lo ys[i]), .int (hi ys[i])], rfl, ?_⟩
      rcases hb with hb | hb
      · exact .inl ⟨sqUp hb S4, fun l nl => ⟨kk, .inr ys[i], rfl, Same.new nl _ _ hkk, fl, fin l _ (Same.new nl) (SqT.of upd_same)⟩⟩
      · exact .inr ⟨stUp hb S4, kk, .inr ys[i], rfl, hkk, fl, fin b _ (Same.refl _) (stUp hb S4)⟩
    · obtain ⟨s4, kk, hkk, hkl⟩ := h4
      rw [List.length_map, List.take_length] at hkl
      have S4 : Same H H4 := S3.trans ((Same.new hq).trans s4)
      have hp4 := S4 _ _ hp
      have nDp : D ≠ p := fun e => by rw [e, hp4] at hkk; cases hkk
      have fD : H D = none := S3.free ((Same.new hq).free hD)
      refine ⟨_, rfl, p, A.a_Meal, dx, _, rfl, hp4, T.cl_M, T.nB, by decide, ?_⟩
      have F4 : Same (er H4 p) (er (upd H4 p (.ins A.a_Meal dx (putF "bounds" (.ref D) []))) p) := by rw [er_upd]; exact Same.refl _
      have E4 : Same (er H p) (er (upd H4 p (.ins A.a_Meal dx (putF "bounds" (.ref D) []))) p) := by rw [er_upd]; exact er_mono S4
      generalize hH5 : upd H4 p (.ins A.a_Meal dx (putF "bounds" (.ref D) [])) = H5 at E4 F4 ⊢
      have hp5 : H5 p = some (.ins A.a_Meal dx (putF "bounds" (.ref D) [])) := by rw [← hH5]; exact upd_same
      have B5 : Same (er H p) H5 := E4.trans (er_same _ _)
      -- self.wished
      refine seq_or ha B5 rfl fun J G wk hG => fun D2 hD2 => lc_it wk (fun i H' => Grow K D2 H5 H' (stripAll (ds.take i))) (Grow.start hD2) (fun i H' _ g => hG H' (B5.trans (g.same.trans (er_same _ _)))) ?_ (fun H6 g => ?_)
      · rintro i x H' H'' hi g ⟨rfl, hx⟩
        obtain ⟨d, hd1, hd2⟩ := dpGet hA hx
        obtain ⟨acc, hac, hAc⟩ := id g.ex
        have hal := dpLen hAc
        rw [stripAll_map, List.length_map] at hal
        have hil : i < ds.length := (List.getElem?_eq_some_iff.mp hd1).1
        have B6 := B5.trans (g.same.trans (er_same _ _))
        refine ⟨rfl, _, rfl, x, d, kvs, rfl, dpSame B6 hd2, hW d (List.mem_of_getElem? hd1), fun r H7 s7 hr7 => ?_⟩
        refine ⟨acc, s7 _ _ hac, Nat.lt_of_le_of_lt (show acc.length ≤ 1000 by rw [hal, List.length_take]; omega) (by decide), ?_⟩
        have e1 : stripAll (ds.take (i + 1)) = stripAll (ds.take i) ++ [strip d] := by rw [stripAll_map, stripAll_map, List.take_succ, hd1, List.map_append]; rfl
        rw [e1]
        exact (g.up s7).app (s7 _ _ hac) (dpEr (s7 _ _ hac) (noTup_lst _) hr7 (tp_strip d))
      · rw [dpLen hA, List.take_length] at g
        obtain ⟨acc, hac, hAc⟩ := id g.ex
        refine ⟨D2, _, rfl, .inl ⟨SqL.of hac, fun t ht => ?_⟩⟩
        have S6 : Same H5 (upd H6 t (.tup acc)) := (g.same.trans (er_same _ _)).trans (Same.new ht)
        have A6 : DpAll K (upd H6 t (.tup acc)) acc (stripAll ds) := dpAllSame ((er_same _ _).trans (Same.new ht)) hAc
        refine ⟨_, rfl, p, A.a_Meal, dx, _, rfl, S6 _ _ hp5, T.cl_M, T.nW, Nat.lt_of_le_of_lt (putF_len _ _ _) (by decide), ?_⟩
        have A7 : DpAll K (er (upd H6 t (.tup acc)) p) acc (stripAll ds) := dpAllEr (S6 _ _ hp5) (noTup_ins _ _ _) A6 (tp_stripAll ds)
        have q7 : SqT K (er (upd H6 t (.tup acc)) p) t acc := tupEr (S6 _ _ hp5) (noTup_ins _ _ _) (SqT.of upd_same)
        have E7 : Same (er H p) (er (upd H6 t (.tup acc)) p) := E4.trans (er_mono S6)
        have F7 : Same (er H4 p) (er (upd H6 t (.tup acc)) p) := F4.trans (er_mono S6)
        generalize upd H6 t (.tup acc) = H7 at A7 q7 E7 F7 ⊢
        have A8 : DpAll K (er (upd H7 p (.ins A.a_Meal dx (putF "wished" (.ref t) (putF "bounds" (.ref D) [])))) p) acc (stripAll ds) := by rw [er_upd]; exact A7
        have q8 : SqT K (er (upd H7 p (.ins A.a_Meal dx (putF "wished" (.ref t) (putF "bounds" (.ref D) [])))) p) t acc := by rw [er_upd]; exact q7
        have E8 : Same (er H p) (er (upd H7 p (.ins A.a_Meal dx (putF "wished" (.ref t) (putF "bounds" (.ref D) [])))) p) := by rw [er_upd]; exact E7
        have F8 : Same (er H4 p) (er (upd H7 p (.ins A.a_Meal dx (putF "wished" (.ref t) (putF "bounds" (.ref D) [])))) p) := by rw [er_upd]; exact F7
        generalize hH8 : upd H7 p (.ins A.a_Meal dx (putF "wished" (.ref t) (putF "bounds" (.ref D) []))) = H8 at A8 q8 E8 F8 ⊢
        have hp8 : H8 p = some (.ins A.a_Meal dx (putF "wished" (.ref t) (putF "bounds" (.ref D) []))) := by rw [← hH8]; exact upd_same
        have B8 : Same (er H p) H8 := E8.trans (er_same _ _)
        -- self.places
        refine seq_or hs0 B8 rfl fun J G wk hG => fun D3 hD3 => lc_it wk (fun i H' => Grow K D3 H8 H' (stripAll (es.take i))) (Grow.start hD3) (fun i H' _ g => hG H' (B8.trans (g.same.trans (er_same _ _)))) ?_ (fun H9 g9 => ?_)
        · rintro i x H' H'' hi g ⟨rfl, hx⟩
          obtain ⟨d, hd1, hd2⟩ := dpGet hZ hx
          obtain ⟨acc2, hac2, hAc2⟩ := id g.ex
          have hal := dpLen hAc2
          rw [stripAll_map, List.length_map] at hal
          have hil : i < es.length := (List.getElem?_eq_some_iff.mp hd1).1
          have B9 := B8.trans (g.same.trans (er_same _ _))
          obtain ⟨ss, ez, _⟩ := hS d (List.mem_of_getElem? hd1)
          obtain ⟨b, vs2, ds2, rfl, hq2, hA2, e2, _, _⟩ := dp_seq (dpSame B9 hd2) ez
          obtain rfl := dpAll_strs hA2 e2
          have e1 : stripAll (es.take (i + 1)) = stripAll (es.take i) ++ [strip d] := by rw [stripAll_map, stripAll_map, List.take_succ, hd1, List.map_append]; rfl
          have fin : ∀ r H10, Same H'' H10 → SqT K H10 r (ss.map V.str) → ∃ acc, H10 D3 = some (.lst acc) ∧ acc.length < sizeLine ∧ Grow K D3 H8 (upd H10 D3 (.lst (acc ++ [.ref r]))) (stripAll (es.take (i + 1))) := fun r H10 s10 hr10 => by
            refine ⟨acc2, s10 _ _ hac2, Nat.lt_of_le_of_lt (show acc2.length ≤ 1000 by rw [hal, List.length_take]; omega) (by decide), ?_⟩
            rw [e1, ez]
            exact (g.up s10).app (s10 _ _ hac2) (.tup (tupEr (s10 _ _ hac2) (noTup_lst _) hr10) (dpStrs ss))
          refine ⟨rfl, _, rfl, b, ss.map V.str, rfl, ?_⟩
          rcases hq2 with hq2 | hq2
          · exact .inl ⟨hq2, fun l nl => fin l _ (Same.new nl) (SqT.of upd_same)⟩
          · exact .inr ⟨hq2, fin b _ (Same.refl _) hq2⟩
        · rw [dpLen hZ, List.take_length] at g9
          obtain ⟨acc3, hac3, hAc3⟩ := id g9.ex
          refine ⟨D3, _, rfl, .inl ⟨SqL.of hac3, fun t2 ht2 => ?_⟩⟩
          have S10 : Same H8 (upd H9 t2 (.tup acc3)) := (g9.same.trans (er_same _ _)).trans (Same.new ht2)
          have A10 : DpAll K (upd H9 t2 (.tup acc3)) acc3 (stripAll es) := dpAllSame ((er_same _ _).trans (Same.new ht2)) hAc3
          refine ⟨_, rfl, p, A.a_Meal, dx, _, rfl, S10 _ _ hp8, T.cl_M, T.nP, Nat.lt_of_le_of_lt (putF_len _ _ _) (Nat.lt_of_le_of_lt (Nat.succ_le_succ (putF_len _ _ _)) (by decide)), ?_⟩
          have A11 : DpAll K (er (upd H9 t2 (.tup acc3)) p) acc3 (stripAll es) := dpAllEr (S10 _ _ hp8) (noTup_ins _ _ _) A10 (tp_stripAll es)
          have q11 : SqT K (er (upd H9 t2 (.tup acc3)) p) t2 acc3 := tupEr (S10 _ _ hp8) (noTup_ins _ _ _) (SqT.of upd_same)
          have F12 : Same (er H4 p) (er (upd (upd H9 t2 (.tup acc3)) p (.ins A.a_Meal dx (putF "places" (.ref t2) (putF "wished" (.ref t) (putF "bounds" (.ref D) []))))) p) := by rw [er_upd]; exact F8.trans (er_mono S10)
          have E12 : Same (er H p) (er (upd (upd H9 t2 (.tup acc3)) p (.ins A.a_Meal dx (putF "places" (.ref t2) (putF "wished" (.ref t) (putF "bounds" (.ref D) []))))) p) := by rw [er_upd]; exact E8.trans (er_mono S10)
          have A12 : DpAll K (er (upd (upd H9 t2 (.tup acc3)) p (.ins A.a_Meal dx (putF "places" (.ref t2) (putF "wished" (.ref t) (putF "bounds" (.ref D) []))))) p) acc3 (stripAll es) := by rw [er_upd]; exact A11
          have q12 : SqT K (er (upd (upd H9 t2 (.tup acc3)) p (.ins A.a_Meal dx (putF "places" (.ref t2) (putF "wished" (.ref t) (putF "bounds" (.ref D) []))))) p) t2 acc3 := by rw [er_upd]; exact q11
          have A13 : DpAll K (er (upd (upd H9 t2 (.tup acc3)) p (.ins A.a_Meal dx (putF "places" (.ref t2) (putF "wished" (.ref t) (putF "bounds" (.ref D) []))))) p) acc (stripAll ds) := by rw [er_upd]; exact dpAllSame (er_mono S10) A8
          have q13 : SqT K (er (upd (upd H9 t2 (.tup acc3)) p (.ins A.a_Meal dx (putF "places" (.ref t2) (putF "wished" (.ref t) (putF "bounds" (.ref D) []))))) p) t acc := by rw [er_upd]; exact stUp q8 (er_mono S10)
          have hp12 : upd (upd H9 t2 (.tup acc3)) p (.ins A.a_Meal dx (putF "places" (.ref t2) (putF "wished" (.ref t) (putF "bounds" (.ref D) [])))) p = some (.ins A.a_Meal dx [("bounds", .ref D), ("wished", .ref t), ("places", .ref t2)]) := by rw [upd_same, flds3]
          generalize upd (upd H9 t2 (.tup acc3)) p (.ins A.a_Meal dx (putF "places" (.ref t2) (putF "wished" (.ref t) (putF "bounds" (.ref D) [])))) = H12 at F12 E12 A12 q12 A13 q13 hp12 ⊢
          have oS : Same (er H12 p) H12 := er_same _ _
          refine k _ ys (fun H20 km => ⟨dx, D, t, t2, kk, acc, acc3, km _ _ hp12 (fun _ z => nomatch z) (fun _ z => nomatch z), km _ _ (oS _ _ (F12 _ _ (er_of nDp hkk))) (fun _ z => nomatch z) (fun _ _ => fD), Pr2.mov (fun _ _ => km.tup) (((hkl.er hp4 (noTup_ins _ _ _)).up F12).up oS), km.tup (stUp q13 oS), dpAllMov (fun _ _ => km.tup) (dpAllSame oS A13) (tp_stripAll ds), km.tup (stUp q12 oS), dpAllMov (fun _ _ => km.tup) (dpAllSame oS A12) (tp_stripAll es)⟩) hperm hsort E12
end
end K5
set_option Elab.async false
set_option linter.all false
set_option maxRecDepth 100000
set_option maxHeartbeats 4000000
namespace K5
open PySem L2
local macro_rules | `(tactic| walk_at "rd1") => `(tactic| first
  | refine ⟨_, _, rfl, rfl, ?_⟩
  | refine ⟨_, _, _, _, rfl, rfl, SqL.of (by assumption), rfl, ?_⟩
  | refine ⟨_, _, _, _, rfl, rfl, (by assumption), rfl, ?_⟩
  | refine .inl ⟨_, rfl, ?_⟩
  | refine ⟨_, rfl, ?_⟩
  | refine ⟨(by unfold CMul; omega), ?_⟩
  | refine ⟨(by unfold CPow; omega), ?_⟩
  | refine ⟨(by (try dsimp only); omega), ?_⟩
  | refine ⟨(by unfold CDiv; omega), ?_⟩
  | fail "rd1")
local macro_rules | `(tactic| walk_at "rd") => `(tactic| repeat' (walk_at "rd1"))
section
variable {P : Program} {w : World} {K : PySem.W.Frag} {mg : Str → Option Value} {base : Heap} {A : Ad}
def spMDishes (K : PySem.W.Frag) (C : Addr) : Sp := fun vs H Q _ => ∃ (p : Addr) (ys : List Str) (lo hi : Str → Int) (ds es : List PyData), vs = [.ref p] ∧ MlAt K C H p ys lo hi ds es ∧
  ∀ l H' kvs, H l = none → Same H H' → H' l = some (.dK kvs) → Pr2 K H' ys (fun n => .int (lo n)) (fun n => .int (hi n)) kvs → Q (.ref l) H'
theorem ok_mdishes (T : Txt K mg A) : FnOk P w K mg base CX0 1 A.a_Meal_dishes A.d_Meal_dishes P_Meal_dishes (spMDishes K A.a_Meal) := by
  refine T.f_Meal_dishes.ok sc_Meal_dishes (fun vs H Q E h => ?_) (fun cdv A' outer s H vs Q E hr h => ?_)
  · obtain ⟨p, ys, lo, hi, ds, es, rfl, _⟩ := h
    rfl
  · obtain ⟨p, ys, lo, hi, ds, es, rfl, M, k⟩ := h
    obtain ⟨dx, qb, qw, qp, kvs, ws, ps, hp, hb, hP, hw, hA, hq, hZ⟩ := M.ex
    refine ⟨_, (pss_one (ps_ret (pe_callTy call_dictD (by rfl) T.dict (by decide +kernel) (pa_cons (pe_fld (pv 0) rfl) pa_nil)))), ?_⟩
    exact ⟨_, rfl, p, A.a_Meal, dx, _, _, rfl, hp, T.cl_M, T.nB, by rfl, qb, _, rfl, .inl hb, fun l hl => k l _ kvs hl (Same.new hl) upd_same (hP.up (Same.new hl))⟩
end
end K5
set_option Elab.async false
set_option linter.all false
set_option maxRecDepth 100000
set_option maxHeartbeats 4000000
namespace K5
open PySem L2
local macro_rules | `(tactic| walk_at "rd1") => `(tactic| first
  | refine ⟨_, _, rfl, rfl, ?_⟩
  | refine ⟨_, _, _, _, rfl, rfl, SqL.of (by assumption), rfl, ?_⟩
  | refine ⟨_, _, _, _, rfl, rfl, (by assumption), rfl, ?_⟩
  | refine .inl ⟨_, rfl, ?_⟩
  | refine ⟨_, rfl, ?_⟩
  | refine ⟨(by unfold CMul; omega), ?_⟩
  | refine ⟨(by unfold CPow; omega), ?_⟩
  | refine ⟨(by (try dsimp only); omega), ?_⟩
  | refine ⟨(by unfold CDiv; omega), ?_⟩
  | fail "rd1")
local macro_rules | `(tactic| walk_at "rd") => `(tactic| repeat' (walk_at "rd1"))
section
variable {P : Program} {w : World} {K : PySem.W.Frag} {mg : Str → Option Value} {base : Heap} {A : Ad}
def StnN (ns : List Str) (d : PyData) : Prop := ∃ ss : List Str, d = .tuple (ss.map PyData.str) ∧ ss.Nodup ∧ 2 ≤ ss.length ∧ ss.length ≤ 64 ∧ ∀ s ∈ ss, s ∈ ns
end
end K5
set_option Elab.async false
set_option linter.all false
set_option maxRecDepth 100000
set_option maxHeartbeats 4000000
namespace K5
open PySem L2
local macro_rules | `(tactic| walk_at "rd1") => `(tactic| first
  | refine ⟨_, _, rfl, rfl, ?_⟩
  | refine ⟨_, _, _, _, rfl, rfl, SqL.of (by assumption), rfl, ?_⟩
  | refine ⟨_, _, _, _, rfl, rfl, (by assumption), rfl, ?_⟩
  | refine .inl ⟨_, rfl, ?_⟩
  | refine ⟨_, rfl, ?_⟩
  | refine ⟨(by unfold CMul; omega), ?_⟩
  | refine ⟨(by unfold CPow; omega), ?_⟩
  | refine ⟨(by (try dsimp only); omega), ?_⟩
  | refine ⟨(by unfold CDiv; omega), ?_⟩
  | fail "rd1")
local macro_rules | `(tactic| walk_at "rd") => `(tactic| repeat' (walk_at "rd1"))
section
variable {P : Program} {w : World} {K : PySem.W.Frag} {mg : Str → Option Value} {base : Heap} {A : Ad}
/-- names that are keys of a dict -/
def InK (kvs : List (Key × V)) (ns : List Str) : Prop := ∀ n ∈ ns, (valV kvs (.inr n)).isSome = true ∧ PyData.strOk n = true
theorem MomN.at {kvs : List (Key × V)} {ns : List Str} {d : PyData} (h : InK kvs ns) (m : MomN ns d) : Mom kvs d := by
  cases m with
  | clock => exact .clock
  | edge he hn => exact .edge he (h _ hn).1 (h _ hn).2
theorem WshN.at {kvs : List (Key × V)} {ns : List Str} {d : PyData} (h : InK kvs ns) (m : WshN ns d) : Wsh kvs d := by
  cases m with
  | mk ha hb => exact .mk (ha.at h) (hb.at h)
theorem StnN.at {kvs : List (Key × V)} {ns : List Str} {d : PyData} (h : InK kvs ns) (m : StnN ns d) : Stn kvs d := by
  obtain ⟨ss, e, nd, l1, l2, hm⟩ := m
  exact ⟨ss, e, nd, l1, l2, fun s q => (h s (hm s q)).1⟩
theorem PrX.inK {H : Hp} {ks : List Str} {f g : Str → V} {kvs : List (Key × V)} (h : PrX K H ks f g kvs) (nd : ks.Nodup) (ok : ∀ n ∈ ks, PyData.strOk n = true) : InK kvs ks := fun n m => by
  obtain ⟨a, e, _⟩ := h.val nd m
  exact ⟨by rw [e]; rfl, ok n m⟩
theorem InK.sub {kvs : List (Key × V)} {ns ms : List Str} (h : InK kvs ms) (s : ∀ n ∈ ns, n ∈ ms) : InK kvs ns := fun n m => h n (s n m)
theorem strip_atAll {P : PyData → Prop} {ds es : List PyData} (e : stripAll ds = es) (h : ∀ d ∈ es, P d) : ∀ d ∈ ds, P (strip d) := fun d m => h _ (by rw [← e, stripAll_map]; exact List.mem_map.mpr ⟨d, m, rfl⟩)
theorem strip_len {ds es : List PyData} (e : stripAll ds = es) : ds.length = es.length := by rw [← e, stripAll_map, List.length_map]
/-- a meal is made -/
theorem mk_meal {H : Hp} {C dd a s0 : Addr} {kvs : List (Key × V)} {ks : List Str} {lo hi : Str → Int} {xs zs : List V} {ds es dw ew : List PyData} {Q : Addr → Hp → Prop} {E : XK}
    (hd : H dd = some (.dK kvs)) (hP : PrX K H ks (fun n => .int (lo n)) (fun n => .int (hi n)) kvs) (kN : ks.Nodup) (hB : ∀ n ∈ ks, (Nm n ∧ PyData.strOk n = true) ∧ 1 ≤ lo n ∧ lo n ≤ hi n) (hl : ks.length < 64)
    (ha : SqX K H a xs) (hA : DpAll K H xs ds) (e1 : stripAll ds = dw) (dl : dw.length ≤ 1000) (hW : ∀ d ∈ dw, WshN ks d) (hs : SqX K H s0 zs) (hZ : DpAll K H zs es) (e2 : stripAll es = ew) (el : ew.length ≤ 1000) (hS : ∀ d ∈ ew, StnN ks d)
    (k : ∀ p H' ys, H p = none → Same H H' → (∀ H2, KeepM H H' H2 → MlAt K C H2 p ys lo hi dw ew) → ys.Perm ks → PyProof.Rows.sortedS ys = true → Q p H') :
    ∀ p dx, H p = none → H dx = none → dx ≠ p → spInit K C [.ref p, .ref dd, .ref a, .ref s0] (upd (upd H dx (.own p)) p (.ins C dx [])) (fun v H' => v = .non ∧ Q p H') E := by
  intro p dx np ndx ndp
  have sM : Same H (upd (upd H dx (.own p)) p (.ins C dx [])) := fun b u e => by rw [upd_ne (ne_of_none e np), upd_ne (ne_of_none e ndx)]; exact e
  have sE : Same H (er (upd (upd H dx (.own p)) p (.ins C dx [])) p) := fun b u e => er_of (ne_of_none e np) (sM _ _ e)
  have iK := hP.inK kN fun n m => (hB n m).1.2
  refine ⟨p, dx, dd, a, s0, kvs, ks, lo, hi, xs, ds, zs, es, rfl, upd_same, sM _ _ hd, hP.up sM, kN, hB, hl, sxUp ha sE, dpAllSame sE hA, by rw [strip_len e1]; exact dl, strip_atAll e1 fun d m => (hW d m).at iK, sxUp hs sE, dpAllSame sE hZ, by rw [strip_len e2]; exact el, strip_atAll e2 fun d m => (hS d m).at iK, fun H' ys MN hperm hsort sS => ⟨rfl, ?_⟩⟩
  rw [e1, e2] at MN
  exact k p H' ys np (fun b u e => (er_same _ _) _ _ (sS _ _ (sE _ _ e))) (fun H2 km => MN H2 fun b u e1 e2 e3 => km b u e1 e2 fun kk q => sM.free (e3 kk q)) hperm hsort
end
end K5
set_option Elab.async false
set_option linter.all false
set_option maxRecDepth 100000
set_option maxHeartbeats 4000000
namespace K5
open PySem L2
local macro_rules | `(tactic| walk_at "rd1") => `(tactic| first
  | refine ⟨_, _, rfl, rfl, ?_⟩
  | refine ⟨_, _, _, _, rfl, rfl, SqL.of (by assumption), rfl, ?_⟩
  | refine ⟨_, _, _, _, rfl, rfl, (by assumption), rfl, ?_⟩
  | refine .inl ⟨_, rfl, ?_⟩
  | refine ⟨_, rfl, ?_⟩
  | refine ⟨(by unfold CMul; omega), ?_⟩
  | refine ⟨(by unfold CPow; omega), ?_⟩
  | refine ⟨(by (try dsimp only); omega), ?_⟩
  | refine ⟨(by unfold CDiv; omega), ?_⟩
  | fail "rd1")
local macro_rules | `(tactic| walk_at "rd") => `(tactic| repeat' (walk_at "rd1"))
section
variable {P : Program} {w : World} {K : PySem.W.Frag} {mg : Str → Option Value} {base : Heap} {A : Ad}
theorem eqvAll_strs : ∀ {xs ys : List Str}, PyData.eqvAll (xs.map PyData.str) (ys.map PyData.str) = true → xs = ys
  | [], [], _ => rfl
  | [], _ :: _, h => by simp [PyData.eqvAll] at h
  | _ :: _, [], h => by simp [PyData.eqvAll] at h
  | x :: xs, y :: ys, h => by
    simp only [List.map_cons, PyData.eqvAll, PyData.eqv, Bool.and_eq_true, beq_iff_eq] at h
    rw [h.1, eqvAll_strs h.2]
theorem WshN.mono {ns ms : List Str} {d : PyData} (s : ∀ n ∈ ns, n ∈ ms) (h : WshN ns d) : WshN ms d := by
  have mm : ∀ {e : PyData}, MomN ns e → MomN ms e := fun q => by
    cases q with
    | clock => exact .clock
    | edge he hn => exact .edge he (s _ hn)
  cases h with
  | mk ha hb => exact .mk (mm ha) (mm hb)
theorem StnN.mono {ns ms : List Str} {d : PyData} (s : ∀ n ∈ ns, n ∈ ms) (h : StnN ns d) : StnN ms d := by
  obtain ⟨ss, e, nd, l1, l2, m⟩ := h
  exact ⟨ss, e, nd, l1, l2, fun x q => s _ (m x q)⟩
end
end K5
set_option Elab.async false
set_option linter.all false
set_option maxRecDepth 100000
set_option maxHeartbeats 4000000
namespace K5
open PySem L2
local macro_rules | `(tactic| walk_at "rd1") => `(tactic| first
  | refine ⟨_, _, rfl, rfl, ?_⟩
  | refine ⟨_, _, _, _, rfl, rfl, SqL.of (by assumption), rfl, ?_⟩
  | refine ⟨_, _, _, _, rfl, rfl, (by assumption), rfl, ?_⟩
  | refine .inl ⟨_, rfl, ?_⟩
  | refine ⟨_, rfl, ?_⟩
  | refine ⟨(by unfold CMul; omega), ?_⟩
  | refine ⟨(by unfold CPow; omega), ?_⟩
  | refine ⟨(by (try dsimp only); omega), ?_⟩
  | refine ⟨(by unfold CDiv; omega), ?_⟩
  | fail "rd1")
local macro_rules | `(tactic| walk_at "rd") => `(tactic| repeat' (walk_at "rd1"))
section
variable {P : Program} {w : World} {K : PySem.W.Frag} {mg : Str → Option Value} {base : Heap} {A : Ad}
/-- G' is G and what is new since H -/
structure More (H G G' : Hp) : Prop where
  same : Same G G'
  new : ∀ b, G' b ≠ none → G b ≠ none ∨ H b = none
theorem More.refl (H G : Hp) : More H G G := ⟨Same.refl _, fun _ h => .inl h⟩
theorem More.step {H H1 G G1 G2 : Hp} (a : More H G G1) (s : Same H H1) (b : More H1 G1 G2) : More H G G2 := ⟨a.same.trans b.same, fun x h => (b.new x h).elim (a.new x) fun e => .inr (s.free e)⟩
theorem More.put {H G G1 : Hp} {D : Addr} {o : HO} (a : More H G G1) (hD : H D = none) (h1 : G1 D = none) : More H G (upd G1 D o) := ⟨a.same.trans (Same.new h1), fun b h => by
  by_cases e : b = D
  · exact .inr (by rw [e]; exact hD)
  · rw [upd_ne e] at h; exact a.new b h⟩
theorem dpApp {H : Hp} : ∀ {vs : List V} {ds : List PyData} {v : V} {d : PyData}, DpAll K H vs ds → Dp K H v d → DpAll K H (vs ++ [v]) (ds ++ [d])
  | _, _, _, _, .nil, h => .cons h .nil
  | _, _, _, _, .cons a b, h => .cons a (dpApp b h)
def spCopy (K : PySem.W.Frag) (n : Nat) : Sp := fun vs H Q _ => ∃ x, vs = [x] ∧
  ((∃ (d : PyData) (G : Hp), Same G H ∧ Dp K G x d ∧ d.depth < n ∧ wid d = true ∧ ∀ y G' H', Same H H' → More H G G' → Same G' H' → Dp K G' y d → Q y H') ∨
    (∃ a, x = .ref a ∧ H a = some (.dK []) ∧ 0 < n ∧ ∀ b H', Same H H' → H b = none → H' b = some (.dK []) → Q (.ref b) H'))
theorem copy_loop {J : It} {n : Nat} {Gd : Hp → Prop} {xs : List V} {ds : List PyData} {H G : Hp} {D : Addr} {x0 : V} {Qd : Hp → Prop} (wk : Walk J xs.length Gd (YAt xs)) (hx : DpAll K G xs ds) (hGH : Same G H)
    (hd : PyData.depthAll ds < n) (hw : widAll ds = true) (hN : ds.length ≤ 1000) (hG : ∀ H', Same H H' → Gd H') (hD : H D = none) (hq : ∀ H' acc G', Same H H' → H' D = some (.lst acc) → More H G G' → Same G' H' → G' D = none → DpAll K G' acc ds → Qd H') :
    ∃ W : Nat → Nat → Hp → Prop, (∃ m, W 0 m (upd H D (.lst []))) ∧ ∀ i m H, W i m H →
      (J.stop i H ∧ Qd H) ∨ (J.go i H ∧ ∃ Nx : Hp → Prop, (∀ H', Nx H' → ∃ m', m' < m ∧ W (i + 1) m' H') ∧ ∀ x H', J.yld i H x H' →
        gName 1 x (wipe [some x0, none, none] [1]) H' fun σ2 H2 => wipe σ2 [1] = wipe [some x0, none, none] [1] ∧ tYes σ2 H2 fun b H3 =>
        if b = true then (tCall (spCopy K n) [] E0 (tCons (tVar 1) tNil)) σ2 H3 fun y H4 => ∃ acc, H4 D = some (.lst acc) ∧ acc.length < sizeLine ∧ Nx (upd H4 D (.lst (acc ++ [y]))) else Nx H3) := by
  have gD : G D = none := hGH.free hD
  refine lc_it wk (fun i H' => Same H H' ∧ ∃ acc G', H' D = some (.lst acc) ∧ More H G G' ∧ Same G' H' ∧ G' D = none ∧ DpAll K G' acc (ds.take i)) ⟨Same.new hD, [], G, upd_same, More.refl _ _, hGH.trans (Same.new hD), gD, .nil⟩ (fun i H' _ p => hG H' p.1) ?_ (fun H' p => ?_)
  · rintro i v H' H'' hi ⟨s1, acc, G', hD', mo, sG, gD', hA⟩ ⟨rfl, hv⟩
    obtain ⟨d, hd1, dx⟩ := dpGet hx hv
    have hdep : d.depth < n := Nat.lt_of_le_of_lt (PyData.depth_le_depthAll ds d (List.mem_of_getElem? hd1)) hd
    have hil : i < ds.length := (List.getElem?_eq_some_iff.mp hd1).1
    have hal := dpLen hA
    refine ⟨rfl, _, rfl, v, rfl, .inl ⟨d, G', sG, dpSame mo.same dx, hdep, widAll_mem hw (List.mem_of_getElem? hd1), fun y G2 H3 s3 mo2 sG2 hy => ?_⟩⟩
    have hD3 := s3 _ _ hD'
    refine ⟨acc, hD3, Nat.lt_of_le_of_lt (show acc.length ≤ 1000 by rw [hal, List.length_take]; omega) (by decide), ?_, acc ++ [y], G2, upd_same, mo.step s1 mo2, ?_, ?_, ?_⟩
    · exact fun b u e => by rw [upd_ne (ne_of_none e hD)]; exact s3 _ _ (s1 _ _ e)
    · have g2 : G2 D = none := by
        cases e : G2 D with
        | none => rfl
        | some o => exact ((mo2.new D (by rw [e]; exact fun z => nomatch z)).elim (fun z => z gD') fun z => by rw [hD'] at z; cases z).elim
      exact fun b u e => by rw [upd_ne (ne_of_none e g2)]; exact sG2 _ _ e
    · cases e : G2 D with
      | none => rfl
      | some o => exact ((mo2.new D (by rw [e]; exact fun z => nomatch z)).elim (fun z => z gD') fun z => by rw [hD'] at z; cases z).elim
    · rw [List.take_succ, hd1]
      exact dpApp (dpAllSame mo2.same hA) hy
  · obtain ⟨s1, acc, G', hD', mo, sG, gD', hA⟩ := p
    rw [dpLen hx, List.take_length] at hA
    exact hq H' acc G' s1 hD' mo sG gD' hA
theorem ok_copied (T : Txt K mg A) : ∀ n : Nat, FnOk P w K mg base CX0 n A.a_copied A.d_copied P_copied (spCopy K n)
  | 0 => no_fn fun vs H Q E ⟨_, _, h⟩ => h.elim (fun ⟨_, _, _, _, h, _⟩ => absurd h (Nat.not_lt_zero _)) fun ⟨_, _, _, h, _⟩ => absurd h (Nat.not_lt_zero _)
  | n + 1 => by
    have G_copied : FnOk P w K mg base CX0 n A.a_copied A.d_copied P_copied (spCopy K n) := ok_copied T n
    refine T.f_copied.ok sc_copied (fun vs H Q E h => ?_) (fun cdv A' outer s H vs Q E hr h => ?_)
    · obtain ⟨x, rfl, _⟩ := h
      rfl
    · obtain ⟨x, rfl, h⟩ := h
      refine ⟨_, (pss_cons (ps_if (pt_val (pe_callB call_isi (by rfl) T.isinstance (by decide +kernel) (pa_cons (pv 0) (pa_cons (pe_bltn (v := .ty "list") (u := .type "list") (by rfl) T.list (by decide +kernel) rfl) pa_nil))))
 (pss_one (ps_ret (pe_lc (own := [("part", 1)]) (g := gName 1) (by rfl) sc_copied.nd (EnT.pi_or (pi_list (pv 0)) (pi_tup (pv 0))) (blkOk_by (N := N_copied) (sc := defScope s_copied) (by decide +kernel)) (fun _ _ _ _ _ => pg_name (i := 1) sc_copied.nd rfl (Or.inl rfl)) (fun _ _ _ _ _ => pts_nil) (fun _ _ _ _ _ => (pe_call G_copied (hr.mono (by omega)) (by rfl) T.g_copied T.f_copied.kp T.b_copied .nil pass0 (pa_cons (pv 1) pa_nil))))))
 pss_nil)
 (pss_cons (ps_if (pt_val (pe_callB call_isi (by rfl) T.isinstance (by decide +kernel) (pa_cons (pv 0) (pa_cons (pe_bltn (v := .ty "tuple") (u := .type "tuple") (by rfl) T.tuple (by decide +kernel) rfl) pa_nil))))
 (pss_one (ps_ret (pe_callTy call_tuple_of (by rfl) T.tuple (by decide +kernel) (pa_cons (pe_lc (own := [("part", 1)]) (g := gName 1) (by rfl) sc_copied.nd (EnT.pi_or (pi_list (pv 0)) (pi_tup (pv 0))) (blkOk_by (N := N_copied) (sc := defScope s_copied) (by decide +kernel)) (fun _ _ _ _ _ => pg_name (i := 1) sc_copied.nd rfl (Or.inl rfl)) (fun _ _ _ _ _ => pts_nil) (fun _ _ _ _ _ => (pe_call G_copied (hr.mono (by omega)) (by rfl) T.g_copied T.f_copied.kp T.b_copied .nil pass0 (pa_cons (pv 1) pa_nil)))) pa_nil))))
 pss_nil)
 (pss_cons (ps_if (pt_val (pe_callB call_isi (by rfl) T.isinstance (by decide +kernel) (pa_cons (pv 0) (pa_cons (pe_bltn (v := .ty "dict") (u := .type "dict") (by rfl) T.dict (by decide +kernel) rfl) pa_nil))))
 (pss_one (ps_ret (pe_lock (pe_dc (own := [("key", 2)]) (g := gName 2) (by rfl) sc_copied.nd (pi_keys (pv 0)) (blkOk_by (N := N_copied) (sc := defScope s_copied) (by decide +kernel)) (fun _ _ _ _ _ => pg_name (i := 2) sc_copied.nd rfl (Or.inl rfl)) (fun _ _ _ _ _ => pts_nil) (fun _ _ _ _ _ => (pv 2)) (fun _ _ _ _ _ => (pe_call G_copied (hr.mono (by omega)) (by rfl) T.g_copied T.f_copied.kp T.b_copied .nil pass0 (pa_cons (pe_dget (hu_of hr) (pv 0) (pv 2) (fun _ _ => rfl)) pa_nil)))))))
 pss_nil)
 (pss_one (ps_ret (pv 0)))))), ?_⟩
      rcases h with ⟨d, G, sG, hx, hd, hw, k⟩ | ⟨a, rfl, ha, _, k⟩
      · cases hx with
        | non => exact ⟨_, rfl, _, _, .type "NoneType", _, false, rfl, .ty _, .base .non, kit_ty (by decide +kernel), _, rfl, iteF ⟨_, rfl, _, _, .type "NoneType", _, false, rfl, .ty _, .base .non, kit_ty (by decide +kernel), _, rfl, iteF ⟨_, rfl, _, _, .type "NoneType", _, false, rfl, .ty _, .base .non, kit_ty (by decide +kernel), _, rfl, iteF ⟨_, rfl, k _ G H (Same.refl _) (More.refl _ _) sG (.non)⟩⟩⟩⟩
        | bl b => exact ⟨_, rfl, _, _, .type "bool", _, false, rfl, .ty _, .base (.bl _), kit_ty (by decide +kernel), _, rfl, iteF ⟨_, rfl, _, _, .type "bool", _, false, rfl, .ty _, .base (.bl _), kit_ty (by decide +kernel), _, rfl, iteF ⟨_, rfl, _, _, .type "bool", _, false, rfl, .ty _, .base (.bl _), kit_ty (by decide +kernel), _, rfl, iteF ⟨_, rfl, k _ G H (Same.refl _) (More.refl _ _) sG (.bl _)⟩⟩⟩⟩
        | int i => exact ⟨_, rfl, _, _, .type "int", _, false, rfl, .ty _, .base (.int _), kit_ty (by decide +kernel), _, rfl, iteF ⟨_, rfl, _, _, .type "int", _, false, rfl, .ty _, .base (.int _), kit_ty (by decide +kernel), _, rfl, iteF ⟨_, rfl, _, _, .type "int", _, false, rfl, .ty _, .base (.int _), kit_ty (by decide +kernel), _, rfl, iteF ⟨_, rfl, k _ G H (Same.refl _) (More.refl _ _) sG (.int _)⟩⟩⟩⟩
        | str z => exact ⟨_, rfl, _, _, .type "str", _, false, rfl, .ty _, .base (.str _), kit_ty (by decide +kernel), _, rfl, iteF ⟨_, rfl, _, _, .type "str", _, false, rfl, .ty _, .base (.str _), kit_ty (by decide +kernel), _, rfl, iteF ⟨_, rfl, _, _, .type "str", _, false, rfl, .ty _, .base (.str _), kit_ty (by decide +kernel), _, rfl, iteF ⟨_, rfl, k _ G H (Same.refl _) (More.refl _ _) sG (.str _)⟩⟩⟩⟩
        | lst hL hA =>
          obtain ⟨w1, w2⟩ := wid_parts (.inl hw)
          have t1 := tyL (sqUp hL sG)
          refine ⟨_, rfl, _, _, .type "list", _, true, rfl, .ty _, t1, kit_ty (by decide +kernel), _, rfl, iteT ?_⟩
          refine seq_or (H0 := H) (.inl (sqUp hL sG)) (Same.refl _) rfl fun J Gd wk hG => fun D hD => copy_loop wk hA sG (by simp only [PyData.depth] at hd; omega) w2 w1 hG hD (fun H' acc G' s' hD' mo sG' gD hA' => ?_)
          refine k (.ref D) (upd G' D (.lst acc)) H' s' (mo.put hD gD) ?_ (.lst (SqL.of upd_same) (dpAllSame (Same.new gD) hA'))
          intro b u e
          by_cases hb : b = D
          · subst hb; rw [upd_same] at e; cases e; exact hD'
          · rw [upd_ne hb] at e; exact sG' _ _ e
        | tup hL hA =>
          obtain ⟨w1, w2⟩ := wid_parts (.inr hw)
          have t1 := tyT (stUp hL sG)
          refine ⟨_, rfl, _, _, .type "tuple", _, false, rfl, .ty _, t1, kit_ty (by decide +kernel), _, rfl, iteF ?_⟩
          refine ⟨_, rfl, _, _, .type "tuple", _, true, rfl, .ty _, t1, kit_ty (by decide +kernel), _, rfl, iteT ?_⟩
          refine seq_or (H0 := H) (.inr (stUp hL sG)) (Same.refl _) rfl fun J Gd wk hG => fun D hD => copy_loop wk hA sG (by simp only [PyData.depth] at hd; omega) w2 w1 hG hD (fun H' acc G' s' hD' mo sG' gD hA' => ?_)
          refine ⟨D, _, rfl, .inl ⟨SqL.of hD', fun t ht => ?_⟩⟩
          have gt : G' t = none := sG'.free ht
          refine k (.ref t) (upd G' t (.tup acc)) _ (s'.trans (Same.new ht)) (mo.put (s'.free ht) gt) ?_ (.tup (SqT.of upd_same) (dpAllSame (Same.new gt) hA'))
          intro b u e
          by_cases hb : b = t
          · subst hb; rw [upd_same] at e ⊢; exact e
          · rw [upd_ne hb] at e ⊢; exact sG' _ _ e
      · have t1 : TyX K H (.ref a) (.type "dict") := .base (.dK ha)
        refine ⟨_, rfl, _, _, .type "dict", _, false, rfl, .ty _, t1, kit_ty (by decide +kernel), _, rfl, iteF ?_⟩
        refine ⟨_, rfl, _, _, .type "dict", _, false, rfl, .ty _, t1, kit_ty (by decide +kernel), _, rfl, iteF ?_⟩
        refine ⟨_, rfl, _, _, .type "dict", _, true, rfl, .ty _, t1, kit_ty (by decide +kernel), _, rfl, iteT ?_⟩
        refine ⟨a, _, ha, trivial, fun od => ?_⟩
        refine ⟨_, rfl, a, od, rfl, .inl ⟨[], upd_same, fun D hD => fillD walk_keys (fun i H' => H' = upd (upd H a (.frz od (.dK []))) D (.dK [])) rfl (fun i H' _ e => ?_) ?_ (fun H' e => ?_)⟩⟩
        · have n : a ≠ D := ne_of_none upd_same hD
          rw [e, upd_ne n, upd_same]
        · intro i x H' H'' hi
          exact absurd hi (Nat.not_lt_zero _)
        · subst e
          have n : a ≠ D := ne_of_none upd_same hD
          have hD0 : H D = none := by rw [upd_ne n.symm] at hD; exact hD
          refine ⟨by rw [upd_ne n, upd_same], k D _ (fun b u e => ?_) hD0 (by rw [upd_ne n.symm, upd_same])⟩
          by_cases hb : b = a
          · subst hb; rw [upd_same]; rw [ha] at e; exact e
          · rw [upd_ne hb, upd_ne (ne_of_none e hD0), upd_ne hb]; exact e
/-- data that can be copied: at a depth below n, in G; or an empty dict -/
def Cpre (K : PySem.W.Frag) (n : Nat) (G H : Hp) (x : V) : Prop := Same G H ∧ ((∃ d, Dp K G x d ∧ d.depth < n ∧ wid d = true) ∨ ∃ a, x = .ref a ∧ H a = some (.dK []) ∧ 0 < n)
/-- two of the same data -/
def SD (K : PySem.W.Frag) (n : Nat) (H : Hp) (x y : V) : Prop := (∃ d, Dp K H x d ∧ Dp K H y d ∧ d.depth < n ∧ wid d = true) ∨ ∃ a b, x = .ref a ∧ y = .ref b ∧ H a = some (.dK []) ∧ H b = some (.dK [])
theorem exo_dK {e C : Addr} {d : Option Addr} {kvs : List (Key × V)} : exo e C d ≠ .dK kvs := fun z => by unfold exo at z; cases z
def spNDI (K : PySem.W.Frag) (n : Nat) (C : Addr) : Sp := fun vs H Q _ => ∃ (a : Addr) (x : V) (G : Hp), vs = [.ref a, x] ∧ H a = some (exo a C none) ∧ G a = none ∧ Cpre K n G H x ∧
  ∀ y Hc dx, Same H Hc → Hc dx = none → dx ≠ a → (∀ H', (∀ b u, Hc b = some u → b ≠ a → H' b = some u) → SD K n H' x y) → Q .non (upd (upd Hc dx (exd dx [("name", y)])) a (exo a C (some dx)))
end
end K5
set_option Elab.async false
set_option linter.all false
set_option maxRecDepth 100000
set_option maxHeartbeats 4000000
namespace K5
open PySem L2
local macro_rules | `(tactic| walk_at "rd1") => `(tactic| first
  | refine ⟨_, _, rfl, rfl, ?_⟩
  | refine ⟨_, _, _, _, rfl, rfl, SqL.of (by assumption), rfl, ?_⟩
  | refine ⟨_, _, _, _, rfl, rfl, (by assumption), rfl, ?_⟩
  | refine .inl ⟨_, rfl, ?_⟩
  | refine ⟨_, rfl, ?_⟩
  | refine ⟨(by unfold CMul; omega), ?_⟩
  | refine ⟨(by unfold CPow; omega), ?_⟩
  | refine ⟨(by (try dsimp only); omega), ?_⟩
  | refine ⟨(by unfold CDiv; omega), ?_⟩
  | fail "rd1")
local macro_rules | `(tactic| walk_at "rd") => `(tactic| repeat' (walk_at "rd1"))
open Own
section
variable {P : Program} {w : World} {K : PySem.W.Frag} {mg : Str → Option Value} {base : Heap} {A : Ad}
theorem rcatA_of {H : Hp} {a b : Addr} {xs ys : List V} {Q : VK} (h1 : SqT K H a xs) (h2 : SqT K H b ys) (l : xs.length + ys.length ≤ sizeLine) (k : ∀ c H1, Same H H1 → SqT K H1 c (xs ++ ys) → Q (.ref c) H1) : rCatA K (.ref a) (.ref b) H Q := by
  refine ⟨a, b, xs, ys, rfl, rfl, h1, h2, l, fun e => ?_, fun _ e => ?_, fun _ _ p np => ?_⟩
  · subst e; exact k b H (Same.refl _) h2
  · subst e; exact k a H (Same.refl _) (by rw [List.append_nil]; exact h1)
  · exact k p _ (Same.new np) (SqT.of upd_same)
/-- an exception is made: what the def's own field is -/
theorem exc_fin {H : Hp} {C a : Addr} {n : Nat} {f : Str} {x y : V} {Hc : Hp} {dd : Addr} {E : XK} (na : H a = none) (s1 : Same (upd H a (exo a C none)) Hc) (h1 : Hc dd = none) (h2 : dd ≠ a) (hs : ∀ H', (∀ b u, Hc b = some u → b ≠ a → H' b = some u) → SD K n H' x y)
    (k : ∀ y dd H', Same H H' → H' dd = some (.xd [(f, y)]) → SD K n H' x y → E (.ref C) (some dd) H') : ∀ H2 : Hp, H2 = upd (upd Hc dd (exd dd [(f, y)])) a (exo a C (some dd)) →
    H2 a = some (exo a C (some dd)) ∧ H2 dd = some (exd dd [(f, y)]) ∧ H dd = none ∧ E (.ref C) (some dd) (upd (del H2 a) dd (.xd [(f, y)])) := by
  rintro H2 rfl
  have sH : Same H Hc := (Same.new na).trans s1
  have keep : ∀ b u, Hc b = some u → b ≠ a → upd (del (upd (upd Hc dd (exd dd [(f, y)])) a (exo a C (some dd))) a) dd (.xd [(f, y)]) b = some u := fun b u e ne => by
    have nd2 : b ≠ dd := fun z => by rw [z, h1] at e; cases e
    rw [upd_ne nd2, del_ne ne, upd_ne ne, upd_ne nd2]
    exact e
  refine ⟨upd_same, by rw [upd_ne h2, upd_same], sH.free h1, k y dd _ (fun b u e => keep b u (sH _ _ e) fun z => by rw [z, na] at e; cases e) upd_same (hs _ keep)⟩
theorem exc_pre {H G : Hp} {C a : Addr} {n : Nat} {x : V} (na : H a = none) (sG : Same G H) (hx : (∃ d, Dp K G x d ∧ d.depth < n ∧ wid d = true) ∨ ∃ a, x = .ref a ∧ H a = some (.dK []) ∧ 0 < n) : Cpre K n G (upd H a (exo a C none)) x :=
  ⟨sG.trans (Same.new na), hx.imp_right fun ⟨a2, e, h2, h3⟩ => ⟨a2, e, Same.new na _ _ h2, h3⟩⟩
end
end K5
set_option Elab.async false
set_option linter.all false
set_option maxRecDepth 100000
set_option maxHeartbeats 4000000
namespace K5
open PySem L2
local macro_rules | `(tactic| walk_at "rd1") => `(tactic| first
  | refine ⟨_, _, rfl, rfl, ?_⟩
  | refine ⟨_, _, _, _, rfl, rfl, SqL.of (by assumption), rfl, ?_⟩
  | refine ⟨_, _, _, _, rfl, rfl, (by assumption), rfl, ?_⟩
  | refine .inl ⟨_, rfl, ?_⟩
  | refine ⟨_, rfl, ?_⟩
  | refine ⟨(by unfold CMul; omega), ?_⟩
  | refine ⟨(by unfold CPow; omega), ?_⟩
  | refine ⟨(by (try dsimp only); omega), ?_⟩
  | refine ⟨(by unfold CDiv; omega), ?_⟩
  | fail "rd1")
local macro_rules | `(tactic| walk_at "rd") => `(tactic| repeat' (walk_at "rd1"))
open Own
section
variable {P : Program} {w : World} {K : PySem.W.Frag} {mg : Str → Option Value} {base : Heap} {A : Ad}
theorem valV_not {kvs : List (Key × V)} {k : Key} (h : k ∉ kvs.map (·.1)) : valV kvs k = none := by
  induction kvs with
  | nil => rfl
  | cons p r ih =>
    rw [List.map_cons, List.mem_cons, not_or] at h
    rw [valV_neg (fun e => h.1 e.symm)]
    exact ih h.2
end
end K5
set_option Elab.async false
set_option linter.all false
set_option maxRecDepth 100000
set_option maxHeartbeats 4000000
namespace K5
open PySem L2
local macro_rules | `(tactic| walk_at "rd1") => `(tactic| first
  | refine ⟨_, _, rfl, rfl, ?_⟩
  | refine ⟨_, _, _, _, rfl, rfl, SqL.of (by assumption), rfl, ?_⟩
  | refine ⟨_, _, _, _, rfl, rfl, (by assumption), rfl, ?_⟩
  | refine .inl ⟨_, rfl, ?_⟩
  | refine ⟨_, rfl, ?_⟩
  | refine ⟨(by unfold CMul; omega), ?_⟩
  | refine ⟨(by unfold CPow; omega), ?_⟩
  | refine ⟨(by (try dsimp only); omega), ?_⟩
  | refine ⟨(by unfold CDiv; omega), ?_⟩
  | fail "rd1")
local macro_rules | `(tactic| walk_at "rd") => `(tactic| repeat' (walk_at "rd1"))
open Own
section
variable {P : Program} {w : World} {K : PySem.W.Frag} {mg : Str → Option Value} {base : Heap} {A : Ad}
def wsh (s a t b : Str) (m : Int) : PyData := .tuple [.tuple [.str s, .str a], .tuple [.str t, .str b], .int m]
def two (a b : Str) (m : Int) : List PyData := [wsh "done" a "done" b m, wsh "done" b "done" a m]
def row (m : Int) (a : Str) : List Str → List PyData
  | [] => []
  | b :: r => two a b m ++ row m a r
theorem wish_made {H : Hp} {p t1 t2 t3 : Addr} {o : HO} {s a t b : Str} {m : Int} (hp : H p = some o) (h1 : H t1 = none) (h2 : upd H t1 (.tup [.str s, .str a]) t2 = none) (h3 : upd (upd H t1 (.tup [.str s, .str a])) t2 (.tup [.str t, .str b]) t3 = none) :
    Same H (upd (upd (upd H t1 (.tup [.str s, .str a])) t2 (.tup [.str t, .str b])) t3 (.tup [.ref t1, .ref t2, .int m])) ∧
    Dp K (er (upd (upd (upd H t1 (.tup [.str s, .str a])) t2 (.tup [.str t, .str b])) t3 (.tup [.ref t1, .ref t2, .int m])) p) (.ref t3) (wsh s a t b m) := by
  have s1 : Same H (upd H t1 (.tup [.str s, .str a])) := Same.new h1
  have s2 : Same (upd H t1 (.tup [.str s, .str a])) (upd (upd H t1 (.tup [.str s, .str a])) t2 (.tup [.str t, .str b])) := Same.new h2
  have s3 : Same (upd (upd H t1 (.tup [.str s, .str a])) t2 (.tup [.str t, .str b])) (upd (upd (upd H t1 (.tup [.str s, .str a])) t2 (.tup [.str t, .str b])) t3 (.tup [.ref t1, .ref t2, .int m])) := Same.new h3
  have n1 : t1 ≠ p := (ne_of_none hp h1).symm
  have n2 : t2 ≠ p := (ne_of_none (s1 _ _ hp) h2).symm
  have n3 : t3 ≠ p := (ne_of_none (s2 _ _ (s1 _ _ hp)) h3).symm
  refine ⟨(s1.trans s2).trans s3, .tup (SqT.of (er_of n3 upd_same)) (.cons (.tup (SqT.of (er_of n1 (s3 _ _ (s2 _ _ upd_same)))) (.cons (.str _) (.cons (.str _) .nil))) (.cons (.tup (SqT.of (er_of n2 (s3 _ _ upd_same))) (.cons (.str _) (.cons (.str _) .nil))) (.cons (.int _) .nil)))⟩
/-- two further wishes -/
theorem Grow.two {p : Addr} {H H' : Hp} {ds : List PyData} (g : Grow K p H H' ds) {a b : Str} {m : Int} {t1 t2 t3 : Addr} (h1 : H' t1 = none) (h2 : upd H' t1 (.tup [.str "done", .str a]) t2 = none) (h3 : upd (upd H' t1 (.tup [.str "done", .str a])) t2 (.tup [.str "done", .str b]) t3 = none) :
    ∀ vs, H' p = some (.lst vs) → Grow K p H (upd (upd (upd (upd H' t1 (.tup [.str "done", .str a])) t2 (.tup [.str "done", .str b])) t3 (.tup [.ref t1, .ref t2, .int m])) p (.lst (vs ++ [.ref t3]))) (ds ++ [wsh "done" a "done" b m]) := fun vs hp => by
  obtain ⟨s3, d3⟩ := wish_made (K := K) (m := m) hp h1 h2 h3
  exact (g.up s3).app (s3 _ _ hp) d3
end
end K5
set_option Elab.async false
set_option linter.all false
set_option maxRecDepth 100000
set_option maxHeartbeats 4000000
namespace K5
open PySem L2
local macro_rules | `(tactic| walk_at "rd1") => `(tactic| first
  | refine ⟨_, _, rfl, rfl, ?_⟩
  | refine ⟨_, _, _, _, rfl, rfl, SqL.of (by assumption), rfl, ?_⟩
  | refine ⟨_, _, _, _, rfl, rfl, (by assumption), rfl, ?_⟩
  | refine .inl ⟨_, rfl, ?_⟩
  | refine ⟨_, rfl, ?_⟩
  | refine ⟨(by unfold CMul; omega), ?_⟩
  | refine ⟨(by unfold CPow; omega), ?_⟩
  | refine ⟨(by (try dsimp only); omega), ?_⟩
  | refine ⟨(by unfold CDiv; omega), ?_⟩
  | fail "rd1")
local macro_rules | `(tactic| walk_at "rd") => `(tactic| repeat' (walk_at "rd1"))
open Own
section
variable {P : Program} {w : World} {K : PySem.W.Frag} {mg : Str → Option Value} {base : Heap} {A : Ad}
def nt (H : Hp) : Hp := fun a => match H a with | some (.tbl _) => none | o => o
theorem nt_of {H : Hp} {a : Addr} {o : HO} (h : H a = some o) (n : ∀ ps, o ≠ .tbl ps) : nt H a = some o := by
  unfold nt
  rw [h]
  cases o <;> first | rfl | exact absurd rfl (n _)
theorem sqtNt {H : Hp} {a : Addr} {xs : List V} (h : SqT K H a xs) : SqT K (nt H) a xs := by
  rcases h with (h | ⟨o, h⟩) | h
  · exact .inl (.inl (nt_of h fun _ z => nomatch z))
  · exact .inl (.inr ⟨o, nt_of h fun _ z => nomatch z⟩)
  · exact .inr h
theorem Pr2.nt {H : Hp} {ns : List Str} {f g : Str → V} {kvs : List (Key × V)} (h : Pr2 K H ns f g kvs) : Pr2 K (nt H) ns f g kvs :=
  ⟨h.keys, fun i n e => by obtain ⟨a, e1, e2⟩ := h.at_ i n e; exact ⟨a, e1, sqtNt e2⟩⟩
theorem sqlNt {H : Hp} {a : Addr} {xs : List V} (h : SqL K H a xs) : SqL K (nt H) a xs := by
  rcases h with (h | ⟨o, h⟩) | h
  · exact .inl (.inl (nt_of h fun _ z => nomatch z))
  · exact .inl (.inr ⟨o, nt_of h fun _ z => nomatch z⟩)
  · exact .inr h
mutual
theorem dpNt {H : Hp} : ∀ {v : V} {d : PyData}, Dp K H v d → Dp K (nt H) v d
  | _, _, .non => .non
  | _, _, .bl b => .bl b
  | _, _, .int i => .int i
  | _, _, .str x => .str x
  | _, _, .lst h q => .lst (sqlNt h) (dpAllNt q)
  | _, _, .tup h q => .tup (sqtNt h) (dpAllNt q)
theorem dpAllNt {H : Hp} : ∀ {vs : List V} {ds : List PyData}, DpAll K H vs ds → DpAll K (nt H) vs ds
  | _, _, .nil => .nil
  | _, _, .cons a b => .cons (dpNt a) (dpAllNt b)
end
theorem takes_len {X : Cx} {W : WX} (t : Takes X W) : Takes X (fun c d σ H => σ.length = X.N.length → W c d σ H) := fun u s' ⟨a, B, sI, pins, σ, H, cls, d, e, I, nb, up, sky, na, os, ag, w⟩ =>
  t u s' ⟨a, B, sI, pins, σ, H, cls, d, e, I, nb, up, sky, na, os, ag, w I.len⟩
end
end K5
set_option Elab.async false
set_option linter.all false
set_option maxRecDepth 100000
set_option maxHeartbeats 4000000
namespace K5
open PySem L2
local macro_rules | `(tactic| walk_at "rd1") => `(tactic| first
  | refine ⟨_, _, rfl, rfl, ?_⟩
  | refine ⟨_, _, _, _, rfl, rfl, SqL.of (by assumption), rfl, ?_⟩
  | refine ⟨_, _, _, _, rfl, rfl, (by assumption), rfl, ?_⟩
  | refine .inl ⟨_, rfl, ?_⟩
  | refine ⟨_, rfl, ?_⟩
  | refine ⟨(by unfold CMul; omega), ?_⟩
  | refine ⟨(by unfold CPow; omega), ?_⟩
  | refine ⟨(by (try dsimp only); omega), ?_⟩
  | refine ⟨(by unfold CDiv; omega), ?_⟩
  | fail "rd1")
local macro_rules | `(tactic| walk_at "rd") => `(tactic| repeat' (walk_at "rd1"))
section
variable {P : Program} {w : World} {K : PySem.W.Frag} {mg : Str → Option Value} {base : Heap} {A : Ad}
abbrev Rows := List (Str × Str)
def kvR (rows : Rows) : List (Key × V) := rows.map fun r => (.inr r.1, .str r.2)
def ksR (rows : Rows) : List Str := rows.map (·.1)
/-- each hangs on the clock or on one ahead of it -/
def Tree (rows : Rows) : Prop := ∀ (i : Nat) (k h : Str), rows[i]? = some (k, h) → h = "clock" ∨ h ∈ ksR (rows.take i)
theorem kvR_keys (rows : Rows) : (kvR rows).map (·.1) = (ksR rows).map Sum.inr := by simp [kvR, ksR]
theorem kvR_len (rows : Rows) : (kvR rows).length = rows.length := by simp [kvR]
theorem Tree.nil : Tree [] := fun i k h e => by simp at e
theorem Tree.app {rows : Rows} {k h : Str} (t : Tree rows) (hh : h = "clock" ∨ h ∈ ksR rows) : Tree (rows ++ [(k, h)]) := fun i k' h' e => by
  rcases Nat.lt_or_ge i rows.length with lt | ge
  · rw [List.getElem?_append_left lt] at e
    rw [List.take_append_of_le_length (Nat.le_of_lt lt)]
    exact t i k' h' e
  · rw [List.getElem?_append_right ge] at e
    have e0 : i - rows.length = 0 := by
      rcases Nat.eq_zero_or_pos (i - rows.length) with z | z
      · exact z
      · rw [List.getElem?_eq_none (by simp; omega)] at e; cases e
    rw [e0] at e
    cases e
    have : i = rows.length := by omega
    subst this
    rw [List.take_append_of_le_length (Nat.le_refl _), List.take_length]
    exact hh
end
end K5
set_option Elab.async false
set_option linter.all false
set_option maxRecDepth 100000
set_option maxHeartbeats 4000000
namespace K5
open PySem L2
local macro_rules | `(tactic| walk_at "rd1") => `(tactic| first
  | refine ⟨_, _, rfl, rfl, ?_⟩
  | refine ⟨_, _, _, _, rfl, rfl, SqL.of (by assumption), rfl, ?_⟩
  | refine ⟨_, _, _, _, rfl, rfl, (by assumption), rfl, ?_⟩
  | refine .inl ⟨_, rfl, ?_⟩
  | refine ⟨_, rfl, ?_⟩
  | refine ⟨(by unfold CMul; omega), ?_⟩
  | refine ⟨(by unfold CPow; omega), ?_⟩
  | refine ⟨(by (try dsimp only); omega), ?_⟩
  | refine ⟨(by unfold CDiv; omega), ?_⟩
  | fail "rd1")
local macro_rules | `(tactic| walk_at "rd") => `(tactic| repeat' (walk_at "rd1"))
section
variable {P : Program} {w : World} {K : PySem.W.Frag} {mg : Str → Option Value} {base : Heap} {A : Ad}
/-- alike, of two texts -/
def spAlike : Sp := fun vs H Q _ => ∃ (a b : Str), vs = [.str a, .str b] ∧ Q (.bl (decide (V.str a = V.str b))) H
theorem ok_alike (T : Txt K mg A) : FnOk P w K mg base CX0 1 A.a_alike A.d_alike P_alike spAlike := by
  have G_alike : FnOk P w K mg base CX0 0 A.a_alike A.d_alike P_alike (fun _ _ _ _ => False) := no_fn fun _ _ _ _ h => h
  refine T.f_alike.ok sc_alike (fun vs H Q E h => ?_) (fun cdv A' outer s H vs Q E hr h => ?_)
  · obtain ⟨a, b, rfl, _⟩ := h
    rfl
  · obtain ⟨a, b, rfl, k⟩ := h
    refine ⟨_, (pss_cons (ps_if (PW.pt (pw_and (pt_val (pe_callB call_isi (by rfl) T.isinstance (by decide +kernel) (pa_cons (pv 0) (pa_cons (pe_bltn (v := .ty "tuple") (u := .type "tuple") (by rfl) T.tuple (by decide +kernel) rfl) pa_nil)))) (pw_and1 (pt_val (pe_callB call_isi (by rfl) T.isinstance (by decide +kernel) (pa_cons (pv 1) (pa_cons (pe_bltn (v := .ty "tuple") (u := .type "tuple") (by rfl) T.tuple (by decide +kernel) rfl) pa_nil)))))))
 (pss_cons (ps_if (pt_cmpR op_ne (pe_callB call_len_seq (by rfl) T.len PySem.boot_len (pa_cons (pv 0) pa_nil)) (pe_callB call_len_seq (by rfl) T.len PySem.boot_len (pa_cons (pv 1) pa_nil)) (nomark _))
 (pss_one (ps_ret pe_bl))
 pss_nil)
 (pss_one (ps_ret (pe_callB (cr_all rfl) (by rfl) T.all (by decide +kernel) (pa_cons (pe_lc (own := [("mine", 2), ("yours", 3)]) (g := gTup K 2 (gCons (gName 2) (gCons (gName 3) gNil))) (by rfl) sc_alike.nd (pi_zip (by rfl) T.zip (pa_cons (pv 0) (pa_cons (pv 1) pa_nil))) (blkOk_by (N := N_alike) (sc := defScope s_alike) (by decide +kernel)) (fun _ _ _ _ _ => (pg_tup rfl (pgs_cons (pg_name (i := 2) sc_alike.nd rfl (Or.inl rfl)) (pgs_cons (pg_name (i := 3) sc_alike.nd rfl (Or.inl rfl)) pgs_nil)))) (fun _ _ _ _ _ => pts_nil) (fun _ _ _ _ _ => (pe_call G_alike (hr.mono (by omega)) (by rfl) T.g_alike T.f_alike.kp T.b_alike .nil pass0 (pa_cons (pv 2) (pa_cons (pv 3) pa_nil))))) pa_nil)))))
 pss_nil)
 (pss_one (ps_ret (pe_and (pe_cmpR op_eq (pe_callB call_isi (by rfl) T.isinstance (by decide +kernel) (pa_cons (pv 0) (pa_cons (pe_bltn (v := .ty "bool") (u := .type "bool") (by rfl) T.bool (by decide +kernel) rfl) pa_nil))) (pe_callB call_isi (by rfl) T.isinstance (by decide +kernel) (pa_cons (pv 1) (pa_cons (pe_bltn (v := .ty "bool") (u := .type "bool") (by rfl) T.bool (by decide +kernel) rfl) pa_nil))) (nomark _)) (pe_one (pe_cmpR op_eq (pv 0) (pv 1) (nomark _))))))), ?_⟩
    refine ⟨_, rfl, _, _, .type "str", _, false, rfl, .ty _, .base (.str _), kit_ty (by decide +kernel), _, rfl, iteF ?_⟩
    refine ⟨_, rfl, _, _, .type "str", _, false, rfl, .ty _, .base (.str _), kit_ty (by decide +kernel), _, rfl, _, _, .type "str", _, false, rfl, .ty _, .base (.str _), kit_ty (by decide +kernel), rfl, _, rfl, iteT ⟨_, rfl, _, rfl, rfl, ?_⟩⟩
    exact k
end
end K5
set_option Elab.async false
set_option linter.all false
set_option maxRecDepth 100000
set_option maxHeartbeats 4000000
namespace K5
open PySem L2
local macro_rules | `(tactic| walk_at "rd1") => `(tactic| first
  | refine ⟨_, _, rfl, rfl, ?_⟩
  | refine ⟨_, _, _, _, rfl, rfl, SqL.of (by assumption), rfl, ?_⟩
  | refine ⟨_, _, _, _, rfl, rfl, (by assumption), rfl, ?_⟩
  | refine .inl ⟨_, rfl, ?_⟩
  | refine ⟨_, rfl, ?_⟩
  | refine ⟨(by unfold CMul; omega), ?_⟩
  | refine ⟨(by unfold CPow; omega), ?_⟩
  | refine ⟨(by (try dsimp only); omega), ?_⟩
  | refine ⟨(by unfold CDiv; omega), ?_⟩
  | fail "rd1")
local macro_rules | `(tactic| walk_at "rd") => `(tactic| repeat' (walk_at "rd1"))
section
variable {P : Program} {w : World} {K : PySem.W.Frag} {mg : Str → Option Value} {base : Heap} {A : Ad}
/-- each hangs on the clock or on one of a lesser rank -/
def Acy (rk : Str → Nat) (rows : Rows) : Prop := ∀ k h : Str, (k, h) ∈ rows → h = "clock" ∨ (h ∈ ksR rows ∧ rk h < rk k)
structure ROk (rk : Str → Nat) (rows : Rows) : Prop where
  nd : (ksR rows).Nodup
  nm : ∀ s ∈ ksR rows, Nm s ∧ PyData.strOk s = true
  len : rows.length < 64
  acy : Acy rk rows
  rkb : ∀ s ∈ ksR rows, rk s < 64
theorem ksR_len (rows : Rows) : (ksR rows).length = rows.length := by simp [ksR]
theorem kvR_nd {rows : Rows} (h : (ksR rows).Nodup) : ((kvR rows).map (·.1)).Nodup := by
  rw [kvR_keys]
  exact List.pairwise_map.mpr (h.imp fun n e => n (Sum.inr.inj e))
theorem valR {rows : Rows} (nd : (ksR rows).Nodup) {k h : Str} (m : (k, h) ∈ rows) : valV (kvR rows) (.inr k) = some (.str h) := by
  obtain ⟨i, hi, e⟩ := List.getElem_of_mem m
  have : (kvR rows)[i]? = some (.inr k, .str h) := by
    unfold kvR
    rw [List.getElem?_map, List.getElem?_eq_getElem hi, e]; rfl
  exact valV_at (kvR_nd nd) this
theorem memR {rows : Rows} {k : Str} (m : k ∈ ksR rows) : ∃ h, (k, h) ∈ rows := by
  obtain ⟨r, hr, e⟩ := List.mem_map.mp m
  exact ⟨r.2, by rw [← e]; exact hr⟩
def spHook : Sp := fun vs H Q _ => ∃ (h : Str) (d : Addr) (od : Obj) (kvs : List (Key × V)) (ks : List Str), vs = [.str h, .ref d] ∧ H d = some (.frz od (.dK kvs)) ∧ kvs.map (·.1) = ks.map Sum.inr ∧ ks.length < 64 ∧ (h = "clock" ∨ h ∈ ks) ∧ ∀ H', Same H H' → Q (.bl true) H'
theorem ok_hook (T : Txt K mg A) : FnOk P w K mg base CX0 2 A.a_is_hook A.d_is_hook P_is_hook spHook := by
  have G_alike : FnOk P w K mg base CX0 1 A.a_alike A.d_alike P_alike spAlike := ok_alike T
  refine T.f_is_hook.ok sc_is_hook (fun vs H Q E h => ?_) (fun cdv A' outer s H vs Q E hr h => ?_)
  · obtain ⟨h, d, od, kvs, ks, rfl, _⟩ := h
    rfl
  · obtain ⟨h, d, od, kvs, ks, rfl, hd, hks, hl, hh, k⟩ := h
    refine ⟨_, (pss_one (ps_ret (pe_or (pe_cmpR op_eq (pv 0) (pe_glob (v := .str "clock") (by rfl) T.g_CLOCK.choose_spec ⟨_, rfl⟩) (nomark _)) (pe_one (pe_callB (cr_any rfl) (by rfl) T.any (by decide +kernel) (pa_cons (pe_lc (own := [("key", 2)]) (g := gName 2) (by rfl) sc_is_hook.nd (pi_keys (pv 1)) (blkOk_by (N := N_is_hook) (sc := defScope s_is_hook) (by decide +kernel)) (fun _ _ _ _ _ => pg_name (i := 2) sc_is_hook.nd rfl (Or.inl rfl)) (fun _ _ _ _ _ => pts_nil) (fun _ _ _ _ _ => (pe_call G_alike (hr.mono (by omega)) (by rfl) T.g_alike T.f_alike.kp T.b_alike .nil pass0 (pa_cons (pv 0) (pa_cons (pv 2) pa_nil))))) pa_nil)))))), ?_⟩
    refine ⟨_, rfl, rfl, _, rfl, ite2 (fun q => k _ (Same.refl _)) (fun q => ?_)⟩
    have hm : h ∈ ks := hh.resolve_left fun e => q (by rw [e]; rfl)
    have hlen : kvs.length = ks.length := by have := congrArg List.length hks; rwa [List.length_map, List.length_map] at this
    refine ⟨_, rfl, d, od, rfl, .inl ⟨kvs, hd, fun D hD => lc_it walk_keys (fun i H' => Same H H' ∧ H' D = some (.lst (((ks.take i).map fun k => decide (V.str h = V.str k)).map V.bl))) ⟨Same.new hD, upd_same⟩ (fun i H' _ z => z.1 _ _ hd) ?_ (fun H' z => ?_)⟩⟩
    · rintro i x H' H'' hi ⟨s1, hD'⟩ ⟨rfl, key, v, hk, rfl⟩
      have hi2 : i < ks.length := by rw [← hlen]; exact hi
      have ek : (kvs.map (·.1))[i]? = some key := by rw [List.getElem?_map, hk]; rfl
      rw [hks, List.getElem?_map, List.getElem?_eq_getElem hi2] at ek
      obtain rfl : Sum.inr ks[i] = key := Option.some.inj ek
      refine ⟨rfl, _, rfl, _, rfl, h, ks[i], rfl, _, hD', ?_, ?_, ?_⟩
      · rw [List.length_map, List.length_map, List.length_take]
        exact Nat.lt_of_le_of_lt (show min i _ ≤ 64 by omega) (by decide)
      · exact fun b u e => by rw [upd_ne (ne_of_none e hD)]; exact s1 _ _ e
      · rw [upd_same, List.take_succ, List.getElem?_eq_getElem hi2, List.map_append, List.map_append]; rfl
    · obtain ⟨s1, hD'⟩ := z
      refine ⟨D, _, rfl, SqL.of hD', ?_⟩
      have e : (((ks.take kvs.length).map fun k => decide (V.str h = V.str k)).any id) = true := by
        rw [List.take_of_length_le (by omega), List.any_map, List.any_eq_true]
        exact ⟨h, hm, decide_eq_true rfl⟩
      rw [e]
      exact k _ s1
end
end K5
set_option Elab.async false
set_option linter.all false
set_option maxRecDepth 100000
set_option maxHeartbeats 4000000
namespace K5
open PySem L2
local macro_rules | `(tactic| walk_at "rd1") => `(tactic| first
  | refine ⟨_, _, rfl, rfl, ?_⟩
  | refine ⟨_, _, _, _, rfl, rfl, SqL.of (by assumption), rfl, ?_⟩
  | refine ⟨_, _, _, _, rfl, rfl, (by assumption), rfl, ?_⟩
  | refine .inl ⟨_, rfl, ?_⟩
  | refine ⟨_, rfl, ?_⟩
  | refine ⟨(by unfold CMul; omega), ?_⟩
  | refine ⟨(by unfold CPow; omega), ?_⟩
  | refine ⟨(by (try dsimp only); omega), ?_⟩
  | refine ⟨(by unfold CDiv; omega), ?_⟩
  | fail "rd1")
local macro_rules | `(tactic| walk_at "rd") => `(tactic| repeat' (walk_at "rd1"))
section
variable {P : Program} {w : World} {K : PySem.W.Frag} {mg : Str → Option Value} {base : Heap} {A : Ad}
/-- what a climb may stand at, below the dish nm -/
def At (rk : Str → Nat) (rows : Rows) (nm h : Str) : Prop := h = "clock" ∨ (h ∈ ksR rows ∧ rk h < rk nm)
def msr (rk : Str → Nat) (h : Str) : Nat := if h = "clock" then 0 else rk h + 1
def spFrom : Sp := fun vs H Q _ => ∃ (nm : Str) (d : Addr) (rk : Str → Nat) (rows : Rows), vs = [.str nm, .ref d] ∧ H d = some (.dK (kvR rows)) ∧ ROk rk rows ∧ nm ∈ ksR rows ∧
  ∀ (p : Addr) (H' : Hp), Same H H' → H p = none → H' p = some (.lst []) → Q (.ref p) H'
theorem ok_from (T : Txt K mg A) : FnOk P w K mg base CX0 1 A.a_round_from A.d_round_from P_round_from spFrom := by
  refine T.f_round_from.ok sc_round_from (fun vs H Q E h => ?_) (fun cdv A' outer s H vs Q E hr h => ?_)
  · obtain ⟨nm, d, rk, rows, rfl, _⟩ := h
    rfl
  · obtain ⟨nm, d, rk, rows, rfl, hd, hO, hn, k⟩ := h
    refine ⟨_, (pss_cons (ps_set (i := 2) sc_round_from.nd rfl (Or.inl rfl) (pe_lst (pa_cons (pv 0) pa_nil)))
 (pss_cons (ps_set (i := 3) sc_round_from.nd rfl (Or.inl rfl) (pe_dget (hu_of hr) (pv 1) (pv 0) (fun _ _ => rfl)))
 (pss_cons (ps_while PassesOwn.never (PW.pt (pw_and (pt_cmpR op_ne (pv 3) (pe_glob (v := .str "clock") (by rfl) T.g_CLOCK.choose_spec ⟨_, rfl⟩) (nomark _)) (pw_and (pt_cmpR op_ne (pv 3) (pv 0) (nomark _)) (pw_and1 (pt_cmpR op_lt (pe_callB call_len_seq (by rfl) T.len PySem.boot_len (pa_cons (pv 2) pa_nil)) (pe_callB call_lenD (by rfl) T.len PySem.boot_len (pa_cons (pv 1) pa_nil)) (nomark _))))))
 (pss_cons (ps_expr (pe_bm PySem.F.plainAttrs_list PySem.F.slot_list_append PySem.F.type_list_append mt_append (pv 2) (pa_cons (pv 3) pa_nil)))
 (pss_one (ps_set (i := 3) sc_round_from.nd rfl (Or.inl rfl) (pe_dget (hu_of hr) (pv 1) (pv 3) (fun _ _ => rfl))))))
 (pss_one (ps_ret (pe_ifExp (pt_cmpR op_eq (pv 3) (pv 0) (nomark _)) (pv 2) (pe_lst pa_nil))))))), ?_⟩
    obtain ⟨h0, hm0⟩ := memR hn
    refine ⟨_, rfl, by show 1 ≤ sizeLine; decide, fun p hp => ?_⟩
    have s0 : Same H (upd H p (.lst [.str nm])) := Same.new hp
    refine ⟨_, rfl, _, rfl, d, _, rfl, .inl ⟨kvR rows, .inr nm, .inl (s0 _ _ hd), rfl, (valR hO.nd hm0).symm⟩, ?_⟩
    have npd : d ≠ p := ne_of_none hd hp
    refine while_ex (fun mm σ' H' => ∃ (xs : List V) (h : Str), σ' = [some (.str nm), some (.ref d), some (.ref p), some (.str h)] ∧ Same H H' ∧ H' p = some (.lst xs) ∧ At rk rows nm h ∧ mm = msr rk h)
      (fun σ' H' => ∃ (h : Str), σ' = [some (.str nm), some (.ref d), some (.ref p), some (.str h)] ∧ Same H H' ∧ At rk rows nm h)
      ⟨_, h0, rfl, s0, upd_same, hO.acy _ _ hm0, rfl⟩ (fun nx hnx => ?_) ?_
    · rintro mm σ' H' ⟨xs, h, rfl, s1, hp1, hat, rfl⟩
      refine ⟨_, rfl, rfl, _, rfl, ite2 (fun c1 => ?_) (fun _ => hnx _ _ ⟨h, rfl, s1, hat⟩)⟩
      have hne : h ≠ "clock" := fun e => by rw [e] at c1; cases c1
      obtain ⟨hin, hlt⟩ := hat.resolve_left hne
      refine ⟨_, rfl, _, rfl, rfl, _, rfl, ite2 (fun c2 => ?_) (fun _ => hnx _ _ ⟨h, rfl, s1, hat⟩)⟩
      refine ⟨_, rfl, _, _, rfl, .inl (SqL.of hp1), _, rfl, d, _, rfl, s1 _ _ hd, _, _, rfl, rfl, _, rfl, ite2 (fun c3 => ?_) (fun _ => hnx _ _ ⟨h, rfl, s1, hat⟩)⟩
      have hl : xs.length < 64 := by
        have q := of_decide_eq_true c3
        have := hO.len
        rw [kvR_len] at q
        omega
      obtain ⟨h2, hm2⟩ := memR hin
      refine ⟨_, fun _ _ z => z, ?_⟩
      refine ⟨_, rfl, .inl ⟨rfl, _, SqL.of hp1⟩, _, rfl, _, _, _, rfl, rfl, hp1, Nat.lt_of_lt_of_le hl (by decide), ?_⟩
      have s2 : Same H (upd H' p (.lst (xs ++ [.str h]))) := fun b u e => by rw [upd_ne (ne_of_none e hp)]; exact s1 _ _ e
      refine ⟨_, rfl, _, rfl, d, _, rfl, .inl ⟨kvR rows, .inr h, .inl (s2 _ _ hd), rfl, (valR hO.nd hm2).symm⟩, ?_⟩
      refine ⟨msr rk h2, ?_, _, h2, rfl, s2, upd_same, ?_, rfl⟩
      · unfold msr
        rw [if_neg hne]
        rcases hO.acy _ _ hm2 with e | e
        · rw [if_pos e]; omega
        · split
          · omega
          · have := e.2; omega
      · exact (hO.acy _ _ hm2).imp_right fun e => ⟨e.1, Nat.lt_trans e.2 hlt⟩
    · rintro σ' H' ⟨h, rfl, s1, hat⟩
      have hne : h ≠ nm := fun e => by
        rcases hat with q | q
        · exact (hO.nm nm hn).1.noclock (e.symm.trans q)
        · rw [e] at q; exact Nat.lt_irrefl _ q.2
      refine ⟨_, rfl, _, rfl, rfl, _, rfl, ite2 (fun q => absurd (V.str.inj (of_decide_eq_true q)) hne) (fun _ => ⟨Nat.zero_le _, fun q hq => ?_⟩)⟩
      exact k q _ (s1.trans (Same.new hq)) (s1.free hq) upd_same
def spRounds : Sp := fun vs H Q _ => ∃ (dd : Addr) (rk : Str → Nat) (rows : Rows), vs = [.ref dd] ∧ H dd = some (.dK (kvR rows)) ∧ ROk rk rows ∧ ∀ H', Same H H' → Q .non H'
theorem ok_rounds (T : Txt K mg A) : FnOk P w K mg base CX0 2 A.a_check_rounds A.d_check_rounds P_check_rounds spRounds := by
  have G_round_from : FnOk P w K mg base CX0 1 A.a_round_from A.d_round_from P_round_from spFrom := ok_from T
  refine T.f_check_rounds.ok sc_check_rounds (fun vs H Q E h => ?_) (fun cdv A' outer s H vs Q E hr h => ?_)
  · obtain ⟨dd, rk, rows, rfl, _⟩ := h
    rfl
  · obtain ⟨dd, rk, rows, rfl, hd, hO, k⟩ := h
    refine ⟨_, (pss_one (ps_for PassesOwn.never rfl (pi_list (pe_callB (call_sortedD rfl) (by rfl) T.sorted (by decide +kernel) (pa_cons (pv 0) pa_nil))) (pg_name (i := 1) sc_check_rounds.nd rfl (Or.inl rfl))
 (pss_cons (ps_set (i := 2) sc_check_rounds.nd rfl (Or.inl rfl) (pe_call G_round_from (hr.mono (by omega)) (by rfl) T.g_round_from T.f_round_from.kp T.b_round_from .nil pass0 (pa_cons (pv 1) (pa_cons (pv 0) pa_nil))))
 (pss_one (ps_if (pt_truth (pv 2) (by intro _; rfl))
 (pss_one ps_never)
 pss_nil))))), ?_⟩
    refine ⟨_, rfl, dd, _, ksR rows, rfl, .inl hd, kvR_keys rows, by rw [ksR_len]; exact hO.len, fun ys q hperm _ hq => ?_⟩
    refine ⟨q, rfl, ⟨_, SqL.of upd_same⟩, for_it walk_list (fun i σ' H' => ∃ x y, σ' = [some (.ref dd), x, y] ∧ Same (upd H q (.lst (ys.map V.str))) H') ⟨_, _, rfl, Same.refl _⟩ (fun i σ' H' _ z => SqL.of (z.choose_spec.choose_spec.2 _ _ upd_same)) ?_ ?_⟩
    · rintro i v σ' H' H'' hi ⟨x, y, rfl, s1⟩ ⟨rfl, hx⟩
      obtain ⟨hi, rfl⟩ := str_at hx
      have S1 : Same H H'' := (Same.new hq).trans s1
      refine ⟨_, rfl, _, rfl, ys[i], dd, rk, rows, rfl, S1 _ _ hd, hO, hperm.mem_iff.mp (List.getElem_mem hi), fun p H3 s3 hp hp3 => ?_⟩
      refine ⟨_, rfl, false, ?_, iteF ?_⟩
      · exact .inl ⟨_, SqL.of hp3, rfl⟩
      · exact ⟨_, _, rfl, s1.trans s3⟩
    · rintro σ' H' ⟨x, y, rfl, s1⟩
      exact k _ ((Same.new hq).trans s1)
end
end K5
set_option Elab.async false
set_option linter.all false
set_option maxRecDepth 100000
set_option maxHeartbeats 4000000
namespace K5
open PySem L2
local macro_rules | `(tactic| walk_at "rd1") => `(tactic| first
  | refine ⟨_, _, rfl, rfl, ?_⟩
  | refine ⟨_, _, _, _, rfl, rfl, SqL.of (by assumption), rfl, ?_⟩
  | refine ⟨_, _, _, _, rfl, rfl, (by assumption), rfl, ?_⟩
  | refine .inl ⟨_, rfl, ?_⟩
  | refine ⟨_, rfl, ?_⟩
  | refine ⟨(by unfold CMul; omega), ?_⟩
  | refine ⟨(by unfold CPow; omega), ?_⟩
  | refine ⟨(by (try dsimp only); omega), ?_⟩
  | refine ⟨(by unfold CDiv; omega), ?_⟩
  | fail "rd1")
local macro_rules | `(tactic| walk_at "rd") => `(tactic| repeat' (walk_at "rd1"))
section
variable {P : Program} {w : World} {K : PySem.W.Frag} {mg : Str → Option Value} {base : Heap} {A : Ad}
theorem idx_of_take {ks : List Str} (nd : ks.Nodup) {i : Nat} {k : Str} (h : ks[i]? = some k) : ks.idxOf k = i := by
  obtain ⟨hi, e⟩ := List.getElem?_eq_some_iff.mp h
  have hm : k ∈ ks := by rw [← e]; exact List.getElem_mem hi
  have l1 := List.idxOf_lt_length_of_mem hm
  have e1 : ks[ks.idxOf k] = ks[i] := by rw [List.getElem_idxOf]; exact e.symm
  exact (List.getElem_inj nd).mp e1
theorem idx_lt {ks : List Str} (nd : ks.Nodup) {i : Nat} {h : Str} (m : h ∈ ks.take i) : ks.idxOf h < i := by
  obtain ⟨j, hj, e⟩ := List.getElem_of_mem m
  rw [List.length_take] at hj
  rw [List.getElem_take] at e
  have q : ks[j]? = some h := by rw [List.getElem?_eq_getElem (by omega), e]
  rw [idx_of_take nd q]
  omega
theorem ROk.tree {rows : Rows} (nd : (ksR rows).Nodup) (nm : ∀ s ∈ ksR rows, Nm s ∧ PyData.strOk s = true) (len : rows.length < 64) (t : Tree rows) : ROk (fun s => (ksR rows).idxOf s) rows := by
  refine ⟨nd, nm, len, fun k h m => ?_, fun s m => Nat.lt_trans (List.idxOf_lt_length_of_mem m) (by rw [ksR_len]; exact len)⟩
  obtain ⟨i, hi, e⟩ := List.getElem_of_mem m
  have q : rows[i]? = some (k, h) := by rw [List.getElem?_eq_getElem hi, e]
  refine (t i k h q).imp_right fun m2 => ?_
  have m3 : h ∈ (ksR rows).take i := by
    unfold ksR at m2 ⊢
    rw [← List.map_take]; exact m2
  refine ⟨List.mem_of_mem_take m3, ?_⟩
  show (ksR rows).idxOf h < (ksR rows).idxOf k
  have qk : (ksR rows)[i]? = some k := by unfold ksR; rw [List.getElem?_map, q]; rfl
  rw [idx_of_take nd qk]
  exact idx_lt nd m3
end
end K5
set_option Elab.async false
set_option linter.all false
set_option maxRecDepth 100000
set_option maxHeartbeats 4000000
namespace K5
open PySem L2
local macro_rules | `(tactic| walk_at "rd1") => `(tactic| first
  | refine ⟨_, _, rfl, rfl, ?_⟩
  | refine ⟨_, _, _, _, rfl, rfl, SqL.of (by assumption), rfl, ?_⟩
  | refine ⟨_, _, _, _, rfl, rfl, (by assumption), rfl, ?_⟩
  | refine .inl ⟨_, rfl, ?_⟩
  | refine ⟨_, rfl, ?_⟩
  | refine ⟨(by unfold CMul; omega), ?_⟩
  | refine ⟨(by unfold CPow; omega), ?_⟩
  | refine ⟨(by (try dsimp only); omega), ?_⟩
  | refine ⟨(by unfold CDiv; omega), ?_⟩
  | fail "rd1")
local macro_rules | `(tactic| walk_at "rd") => `(tactic| repeat' (walk_at "rd1"))
section
variable {P : Program} {w : World} {K : PySem.W.Frag} {mg : Str → Option Value} {base : Heap} {A : Ad}
def rowsF (ns : List Str) (hk : Str → Str) : Rows := ns.map fun n => (n, hk n)
theorem kvR_F (ns : List Str) (hk : Str → Str) : kvR (rowsF ns hk) = kvF ns fun n => .str (hk n) := by simp [kvR, rowsF, kvF]
theorem ksR_F (ns : List Str) (hk : Str → Str) : ksR (rowsF ns hk) = ns := by unfold ksR rowsF; rw [List.map_map]; exact List.map_id _
theorem mem_F {ns : List Str} {hk : Str → Str} {n : Str} (m : n ∈ ns) : (n, hk n) ∈ rowsF ns hk := List.mem_map.mpr ⟨n, m, rfl⟩
theorem of_mem_F {ns : List Str} {hk : Str → Str} {n h : Str} (m : (n, h) ∈ rowsF ns hk) : n ∈ ns ∧ h = hk n := by
  obtain ⟨k, hk2, e⟩ := List.mem_map.mp m
  cases e
  exact ⟨hk2, rfl⟩
end
end K5
set_option Elab.async false
set_option linter.all false
set_option maxRecDepth 100000
set_option maxHeartbeats 4000000
namespace K5
open PySem L2
local macro_rules | `(tactic| walk_at "rd1") => `(tactic| first
  | refine ⟨_, _, rfl, rfl, ?_⟩
  | refine ⟨_, _, _, _, rfl, rfl, SqL.of (by assumption), rfl, ?_⟩
  | refine ⟨_, _, _, _, rfl, rfl, (by assumption), rfl, ?_⟩
  | refine .inl ⟨_, rfl, ?_⟩
  | refine ⟨_, rfl, ?_⟩
  | refine ⟨(by unfold CMul; omega), ?_⟩
  | refine ⟨(by unfold CPow; omega), ?_⟩
  | refine ⟨(by (try dsimp only); omega), ?_⟩
  | refine ⟨(by unfold CDiv; omega), ?_⟩
  | fail "rd1")
local macro_rules | `(tactic| walk_at "rd") => `(tactic| repeat' (walk_at "rd1"))
section
variable {P : Program} {w : World} {K : PySem.W.Frag} {mg : Str → Option Value} {base : Heap} {A : Ad}
/-- len(meal), also while its dict is locked -/
def spMLenR (C : Addr) : Sp := fun vs H Q _ => ∃ (p dx qb qw qp : Addr) (kvs : List (Key × V)), vs = [.ref p] ∧ H p = some (.ins C dx [("bounds", .ref qb), ("wished", .ref qw), ("places", .ref qp)]) ∧ Rd H qb (.dK kvs) ∧ Q (.int kvs.length) H
theorem ok_mlenR (T : Txt K mg A) : FnOk P w K mg base CX0 1 A.a_Meal___len__ A.d_Meal___len__ P_Meal___len__ (spMLenR A.a_Meal) := by
  refine T.f_Meal___len__.ok sc_Meal___len__ (fun vs H Q E h => ?_) (fun cdv A' outer s H vs Q E hr h => ?_)
  · obtain ⟨p, dx, qb, qw, qp, kvs, rfl, _⟩ := h
    rfl
  · obtain ⟨p, dx, qb, qw, qp, kvs, rfl, hp, hb, k⟩ := h
    refine ⟨_, (pss_one (ps_ret (pe_callB Own.call_lenRd (by rfl) T.len PySem.boot_len (pa_cons (pe_fld (pv 0) rfl) pa_nil)))), ?_⟩
    exact ⟨_, rfl, p, A.a_Meal, dx, _, _, rfl, hp, T.cl_M, T.nB, by rfl, qb, _, rfl, hb, k⟩
def spMIter (C : Addr) (n : Nat) : Sp := fun vs H Q _ => ∃ (p dx qb qw qp : Addr) (od : Obj) (kvs : List (Key × V)), vs = [.ref p] ∧ H p = some (.ins C dx [("bounds", .ref qb), ("wished", .ref qw), ("places", .ref qp)]) ∧ H qb = some (.frz od (.dK kvs)) ∧ ∀ it, H it = none → n ≤ it → Q (.ref it) (upd H it (Own.KiO qb od it))
theorem ok_miter (T : Txt K mg A) : FnOk P w K mg base CX0 1 A.a_Meal___iter__ A.d_Meal___iter__ P_Meal___iter__ (spMIter A.a_Meal base.objs.size) := by
  refine T.f_Meal___iter__.ok sc_Meal___iter__ (fun vs H Q E h => ?_) (fun cdv A' outer s H vs Q E hr h => ?_)
  · obtain ⟨p, dx, qb, qw, qp, od, kvs, rfl, _⟩ := h
    rfl
  · obtain ⟨p, dx, qb, qw, qp, od, kvs, rfl, hp, hb, k⟩ := h
    refine ⟨_, (pss_one (ps_ret (pe_callB Own.call_iterD (by rfl) T.iter (by decide +kernel) (pa_cons (pe_fld (pv 0) rfl) pa_nil)))), ?_⟩
    exact ⟨_, rfl, p, A.a_Meal, dx, _, _, rfl, hp, T.cl_M, T.nB, by rfl, qb, od, kvs, rfl, hb, k⟩
def kvW (ys : List Str) (wt : Str → Int) : List (Key × V) := kvF ys fun n => .int (wt n)
structure BkAt (C : Addr) (H : Hp) (p : Addr) (ys : List Str) (hk : Str → Str) (wt : Str → Int) : Prop where
  ex : ∃ (dx qh qw : Addr), H p = some (.ins C dx [("hooks", .ref qh), ("waits", .ref qw)]) ∧ H qh = some (.dK (kvF ys fun n => .str (hk n))) ∧ H qw = some (.dK (kvF ys fun n => .int (wt n)))
theorem BkAt.up {C : Addr} {H H' : Hp} {p : Addr} {ys : List Str} {hk : Str → Str} {wt : Str → Int} (h : BkAt C H p ys hk wt) (s : Same H H') : BkAt C H' p ys hk wt := by
  obtain ⟨dx, qh, qw, h1, h2, h3⟩ := h.ex
  exact ⟨dx, qh, qw, s _ _ h1, s _ _ h2, s _ _ h3⟩
def spBIter (C : Addr) (n : Nat) : Sp := fun vs H Q _ => ∃ (p dx qh qw : Addr) (od : Obj) (kvs : List (Key × V)), vs = [.ref p] ∧ H p = some (.ins C dx [("hooks", .ref qh), ("waits", .ref qw)]) ∧ H qh = some (.frz od (.dK kvs)) ∧ ∀ it, H it = none → n ≤ it → Q (.ref it) (upd H it (Own.KiO qh od it))
theorem ok_biter (T : Txt K mg A) : FnOk P w K mg base CX0 1 A.a_Book___iter__ A.d_Book___iter__ P_Book___iter__ (spBIter A.a_Book base.objs.size) := by
  refine T.f_Book___iter__.ok sc_Book___iter__ (fun vs H Q E h => ?_) (fun cdv A' outer s H vs Q E hr h => ?_)
  · obtain ⟨p, dx, qh, qw, od, kvs, rfl, _⟩ := h
    rfl
  · obtain ⟨p, dx, qh, qw, od, kvs, rfl, hp, hb, k⟩ := h
    refine ⟨_, (pss_one (ps_ret (pe_callB Own.call_iterD (by rfl) T.iter (by decide +kernel) (pa_cons (pe_fld (pv 0) rfl) pa_nil)))), ?_⟩
    exact ⟨_, rfl, p, A.a_Book, dx, _, _, rfl, hp, T.cl_B, T.nBH, by rfl, qh, od, kvs, rfl, hb, k⟩
def spIsWait (K : PySem.W.Frag) : Sp := fun vs H Q _ => ∃ (i : Int), vs = [.int i] ∧ 0 ≤ i ∧ Q (.bl true) H
theorem ok_iswait (T : Txt K mg A) : FnOk P w K mg base CX0 2 A.a_is_wait A.d_is_wait P_is_wait (spIsWait K) := by
  have G_is_integer : FnOk P w K mg base CX0 1 A.a_is_integer A.d_is_integer P_is_integer (spIsInt K) := ok_isint T
  refine T.f_is_wait.ok sc_is_wait (fun vs H Q E h => ?_) (fun cdv A' outer s H vs Q E hr h => ?_)
  · obtain ⟨i, rfl, _⟩ := h
    rfl
  · obtain ⟨i, rfl, h0, k⟩ := h
    refine ⟨_, (pss_one (ps_ret (pe_and (pe_call G_is_integer (hr.mono (by omega)) (by rfl) T.g_is_integer T.f_is_integer.kp T.b_is_integer .nil pass0 (pa_cons (pv 0) pa_nil)) (pe_one (pe_cmpR op_ge (pv 0) pe_int (nomark _)))))), ?_⟩
    refine ⟨_, rfl, .int i, .int i, rfl, .int i, _, rfl, iteT ?_⟩
    refine ⟨_, rfl, _, _, rfl, rfl, ?_⟩
    show Q (.bl (decide (0 ≤ i))) H
    rw [decide_eq_true h0]
    exact k
/-- a row of a book: what it hangs on and the wait, in a tuple -/
def spEntry (K : PySem.W.Frag) : Sp := fun vs H Q _ => ∃ (a d : Addr) (od : Obj) (kvs : List (Key × V)) (ks : List Str) (h : Str) (i : Int), vs = [.ref a, .ref d] ∧ SqT K H a [.str h, .int i] ∧ H d = some (.frz od (.dK kvs)) ∧ kvs.map (·.1) = ks.map Sum.inr ∧ ks.length < 64 ∧ (h = "clock" ∨ h ∈ ks) ∧ 0 ≤ i ∧ ∀ H', Same H H' → Q (.bl true) H'
theorem ok_entry (T : Txt K mg A) : FnOk P w K mg base CX0 3 A.a_is_entry A.d_is_entry P_is_entry (spEntry K) := by
  have G_is_list : FnOk P w K mg base CX0 1 A.a_is_list A.d_is_list P_is_list (spIsList K) := ok_islist T
  have G_is_hook : FnOk P w K mg base CX0 2 A.a_is_hook A.d_is_hook P_is_hook spHook := ok_hook T
  have G_is_wait : FnOk P w K mg base CX0 2 A.a_is_wait A.d_is_wait P_is_wait (spIsWait K) := ok_iswait T
  refine T.f_is_entry.ok sc_is_entry (fun vs H Q E h => ?_) (fun cdv A' outer s H vs Q E hr h => ?_)
  · obtain ⟨a, d, od, kvs, ks, h, i, rfl, _⟩ := h
    rfl
  · obtain ⟨a, d, od, kvs, ks, h, i, rfl, ha, hd, hks, hl, hh, h0, k⟩ := h
    refine ⟨_, (pss_cons (ps_if (PW.pt (pw_or (pt_not (pt_val (pe_call G_is_list (hr.mono (by omega)) (by rfl) T.g_is_list T.f_is_list.kp T.b_is_list .nil pass0 (pa_cons (pv 0) pa_nil)))) (pw_or1 (pt_cmpR op_ne (pe_callB call_len_seq (by rfl) T.len PySem.boot_len (pa_cons (pv 0) pa_nil)) pe_int (nomark _)))))
 (pss_one (ps_ret pe_bl))
 pss_nil)
 (pss_cons (ps_asg (pv 0) (pg_tup (by rfl) (pgs_cons (pg_name (i := 2) sc_is_entry.nd rfl (Or.inl rfl)) (pgs_cons (pg_name (i := 3) sc_is_entry.nd rfl (Or.inl rfl)) pgs_nil))))
 (pss_one (ps_ret (pe_and (pe_call G_is_hook (hr.mono (by omega)) (by rfl) T.g_is_hook T.f_is_hook.kp T.b_is_hook .nil pass0 (pa_cons (pv 2) (pa_cons (pv 1) pa_nil))) (pe_one (pe_call G_is_wait (hr.mono (by omega)) (by rfl) T.g_is_wait T.f_is_wait.kp T.b_is_wait .nil pass0 (pa_cons (pv 3) pa_nil)))))))), ?_⟩
    refine ⟨_, rfl, .ref a, .tuple [.str h, .int i], rfl, .tup ha (.cons (.str h) (.cons (.int i) .nil)), fun H1 s1 => ⟨_, rfl, iteF ?_⟩⟩
    have ha1 := stUp ha s1
    refine ⟨_, rfl, a, _, rfl, .inr ha1, rfl, _, rfl, iteF ?_⟩
    refine ⟨_, rfl, a, _, rfl, ha1, rfl, _, _, rfl, _, _, rfl, rfl, ?_⟩
    refine ⟨_, rfl, _, rfl, h, d, od, kvs, ks, rfl, s1 _ _ hd, hks, hl, hh, fun H2 s2 => ⟨_, rfl, iteT ?_⟩⟩
    exact ⟨_, rfl, i, rfl, h0, k _ (s1.trans s2)⟩
end
end K5
set_option Elab.async false
set_option linter.all false
set_option maxRecDepth 100000
set_option maxHeartbeats 4000000
namespace K5
open PySem L2
local macro_rules | `(tactic| walk_at "rd1") => `(tactic| first
  | refine ⟨_, _, rfl, rfl, ?_⟩
  | refine ⟨_, _, _, _, rfl, rfl, SqL.of (by assumption), rfl, ?_⟩
  | refine ⟨_, _, _, _, rfl, rfl, (by assumption), rfl, ?_⟩
  | refine .inl ⟨_, rfl, ?_⟩
  | refine ⟨_, rfl, ?_⟩
  | refine ⟨(by unfold CMul; omega), ?_⟩
  | refine ⟨(by unfold CPow; omega), ?_⟩
  | refine ⟨(by (try dsimp only); omega), ?_⟩
  | refine ⟨(by unfold CDiv; omega), ?_⟩
  | fail "rd1")
local macro_rules | `(tactic| walk_at "rd") => `(tactic| repeat' (walk_at "rd1"))
section
variable {P : Program} {w : World} {K : PySem.W.Frag} {mg : Str → Option Value} {base : Heap} {A : Ad}
theorem unfrz {H H' : Hp} {d : Addr} {u o : HO} (hd : H d = some u) (s : Same (upd H d o) H') : Same H (upd H' d u) := fun b v e => by
  by_cases hb : b = d
  · subst hb; rw [upd_same]; rw [hd] at e; exact e
  · rw [upd_ne hb]; exact s _ _ (by rw [upd_ne hb]; exact e)
def spChkE (K : PySem.W.Frag) : Sp := fun vs H Q _ => ∃ (dd : Addr) (kvs : List (Key × V)) (ns : List Str) (hk : Str → Str) (wt : Str → Int), vs = [.ref dd] ∧ H dd = some (.dK kvs) ∧ Pr2 K H ns (fun n => .str (hk n)) (fun n => .int (wt n)) kvs ∧ ns.Nodup ∧ ns.length < 64 ∧
  (∀ n ∈ ns, Nm n ∧ (hk n = "clock" ∨ hk n ∈ ns) ∧ 0 ≤ wt n) ∧ ∀ H', Same H H' → Q .non H'
theorem ok_chke (T : Txt K mg A) : FnOk P w K mg base CX0 4 A.a_check_entries A.d_check_entries P_check_entries (spChkE K) := by
  have G_is_name : FnOk P w K mg base CX0 1 A.a_is_name A.d_is_name P_is_name spIsName := ok_isname T
  have G_is_entry : FnOk P w K mg base CX0 3 A.a_is_entry A.d_is_entry P_is_entry (spEntry K) := ok_entry T
  refine T.f_check_entries.ok sc_check_entries (fun vs H Q E h => ?_) (fun cdv A' outer s H vs Q E hr h => ?_)
  · obtain ⟨dd, kvs, ns, hk, wt, rfl, _⟩ := h
    rfl
  · obtain ⟨dd, kvs, ns, hk, wt, rfl, hd, hP, nd, hl, hB, k⟩ := h
    refine ⟨_, (pss_one (ps_lock (ps_for PassesOwn.never rfl (pi_keys (pv 0)) (pg_name (i := 1) sc_check_entries.nd rfl (Or.inl rfl))
 (pss_one (ps_if (PW.pt (pw_or (pt_not (pt_val (pe_call G_is_name (hr.mono (by omega)) (by rfl) T.g_is_name T.f_is_name.kp T.b_is_name .nil pass0 (pa_cons (pv 1) pa_nil)))) (pw_or1 (pt_not (pt_val (pe_call G_is_entry (hr.mono (by omega)) (by rfl) T.g_is_entry T.f_is_entry.kp T.b_is_entry .nil pass0 (pa_cons (pe_dget (hu_of hr) (pv 0) (pv 1) (fun _ _ => rfl)) (pa_cons (pv 0) pa_nil))))))))
 (pss_one ps_never)
 pss_nil))))), ?_⟩
    refine ⟨dd, _, hd, trivial, fun od => ?_⟩
    have hPf : Pr2 K (upd H dd (.frz od (.dK kvs))) ns (fun n => .str (hk n)) (fun n => .int (wt n)) kvs := hP.set hd (noTup_dK _)
    refine ⟨_, rfl, dd, od, rfl, .inl ⟨kvs, upd_same, for_it walk_keys (fun i σ' H' => ∃ x, σ' = [some (.ref dd), x] ∧ Same (upd H dd (.frz od (.dK kvs))) H') ⟨none, rfl, Same.refl _⟩ (fun i σ' H' _ ⟨_, _, s⟩ => s _ _ upd_same) ?_ ?_⟩⟩
    · rintro i x σ' H' H'' hi ⟨y, rfl, s1⟩ ⟨rfl, key, v, hkv, rfl⟩
      obtain ⟨hi1, a, rfl, rfl, hq⟩ := hPf.get hkv
      have hm := List.getElem_mem hi1
      obtain ⟨b1, b2, b3⟩ := hB _ hm
      refine ⟨_, rfl, ns[i], rfl, b1, fun H2 s2 => ⟨_, rfl, iteF ?_⟩⟩
      have hd2 : H2 dd = some (.frz od (.dK kvs)) := s2 _ _ (s1 _ _ upd_same)
      obtain ⟨a2, hv, hq2⟩ := hPf.val nd hm
      refine ⟨_, rfl, _, rfl, dd, .ref a2, rfl, .inl ⟨kvs, .inr ns[i], .inr ⟨od, hd2⟩, rfl, hv.symm⟩, _, rfl, a2, dd, od, kvs, ns, hk ns[i], wt ns[i], rfl, stUp hq2 (s1.trans s2), hd2, hP.keys, hl, b2, b3, fun H3 s3 => ⟨_, rfl, iteF ?_⟩⟩
      exact ⟨_, rfl, (s1.trans s2).trans s3⟩
    · rintro σ' H' ⟨x, rfl, s1⟩
      exact ⟨s1 _ _ upd_same, k _ (unfrz hd s1)⟩
def spBInit (K : PySem.W.Frag) (C : Addr) : Sp := fun vs H Q _ => ∃ (p dx dd : Addr) (kvs : List (Key × V)) (ns : List Str) (hk : Str → Str) (wt : Str → Int) (rk : Str → Nat), vs = [.ref p, .ref dd] ∧ H p = some (.ins C dx []) ∧ H dd = some (.dK kvs) ∧
  Pr2 K H ns (fun n => .str (hk n)) (fun n => .int (wt n)) kvs ∧ ROk rk (rowsF ns hk) ∧ (∀ n ∈ ns, 0 ≤ wt n) ∧ ∀ (H' : Hp) (ys : List Str), BkAt C H' p ys hk wt → ys.Perm ns → PyProof.Rows.sortedS ys = true → Same (er H p) (er H' p) → Q .non H'
theorem fld2 (x y : V) : putF "waits" y (putF "hooks" x []) = ([("hooks", x), ("waits", y)] : List (Str × V)) := by
  show (if ("hooks" : Str) = "waits" then _ else _) = _
  rw [if_neg (by decide +kernel)]; rfl
theorem ok_binit (T : Txt K mg A) : FnOk P w K mg base CX0 5 A.a_Book___init__ A.d_Book___init__ P_Book___init__ (spBInit K A.a_Book) := by
  have G_check_entries : FnOk P w K mg base CX0 4 A.a_check_entries A.d_check_entries P_check_entries (spChkE K) := ok_chke T
  have G_check_rounds : FnOk P w K mg base CX0 2 A.a_check_rounds A.d_check_rounds P_check_rounds spRounds := ok_rounds T
  refine T.f_Book___init__.ok sc_Book___init__ (fun vs H Q E h => ?_) (fun cdv A' outer s H vs Q E hr h => ?_)
  · obtain ⟨p, dx, dd, kvs, ns, hk, wt, rk, rfl, _⟩ := h
    rfl
  · obtain ⟨p, dx, dd, kvs, ns, hk, wt, rk, rfl, hp, hd, hP, hO, hW, k⟩ := h
    have kN : ns.Nodup := by have := hO.nd; rwa [ksR_F] at this
    have hl : ns.length < 64 := by have := hO.len; rwa [← ksR_len, ksR_F] at this
    have hB : ∀ n ∈ ns, Nm n ∧ (hk n = "clock" ∨ hk n ∈ ns) ∧ 0 ≤ wt n := fun n m => ⟨(hO.nm n (by rw [ksR_F]; exact m)).1, (hO.acy n _ (mem_F m)).imp_right fun e => by have := e.1; rwa [ksR_F] at this, hW n m⟩
    refine ⟨_, (pss_cons (ps_expr (pe_call G_check_entries (hr.mono (by omega)) (by rfl) T.g_check_entries T.f_check_entries.kp T.b_check_entries .nil pass0 (pa_cons (pv 1) pa_nil)))
 (pss_cons (ps_expr (pe_call G_check_rounds (hr.mono (by omega)) (by rfl) T.g_check_rounds T.f_check_rounds.kp T.b_check_rounds .nil pass0 (pa_cons (pe_lock (pe_dc (own := [("name", 2)]) (g := gName 2) (by rfl) sc_Book___init__.nd (pi_keys (pv 1)) (blkOk_by (N := N_Book___init__) (sc := defScope s_Book___init__) (by decide +kernel)) (fun _ _ _ _ _ => pg_name (i := 2) sc_Book___init__.nd rfl (Or.inl rfl)) (fun _ _ _ _ _ => pts_nil) (fun _ _ _ _ _ => (pv 2)) (fun _ _ _ _ _ => (pe_ix (Own.ixTupOf (K := K) rfl) (pe_dget (hu_of hr) (pv 1) (pv 2) (fun _ _ => rfl)) pe_int (fun _ _ => rfl))))) pa_nil)))
 (pss_cons (ps_fld (pv 0) (pe_dc (own := [("name", 2)]) (g := gName 2) (by rfl) sc_Book___init__.nd (pi_list (pe_callB (call_sortedD rfl) (by rfl) T.sorted (by decide +kernel) (pa_cons (pv 1) pa_nil))) (blkOk_by (N := N_Book___init__) (sc := defScope s_Book___init__) (by decide +kernel)) (fun _ _ _ _ _ => pg_name (i := 2) sc_Book___init__.nd rfl (Or.inl rfl)) (fun _ _ _ _ _ => pts_nil) (fun _ _ _ _ _ => (pv 2)) (fun _ _ _ _ _ => (pe_ix (Own.ixTupOf (K := K) rfl) (pe_dget (hu_of hr) (pv 1) (pv 2) (fun _ _ => rfl)) pe_int (fun _ _ => rfl)))) rfl)
 (pss_one (ps_fld (pv 0) (pe_lock (pe_dc (own := [("name", 2)]) (g := gName 2) (by rfl) sc_Book___init__.nd (pi_keys (pe_fld (pv 0) rfl)) (blkOk_by (N := N_Book___init__) (sc := defScope s_Book___init__) (by decide +kernel)) (fun _ _ _ _ _ => pg_name (i := 2) sc_Book___init__.nd rfl (Or.inl rfl)) (fun _ _ _ _ _ => pts_nil) (fun _ _ _ _ _ => (pv 2)) (fun _ _ _ _ _ => (pe_ix (Own.ixTupOf (K := K) rfl) (pe_dget (hu_of hr) (pv 1) (pv 2) (fun _ _ => rfl)) pe_int (fun _ _ => rfl))))) rfl))))), ?_⟩
    have npd : dd ≠ p := ne_of hd hp (fun z => nomatch z)
    refine ⟨_, rfl, dd, kvs, ns, hk, wt, rfl, hd, hP, kN, hl, hB, fun H1 s1 => ?_⟩
    have hd1 := s1 _ _ hd
    have hP1 := hP.up s1
    -- the hooks for the rounds
    refine ⟨dd, _, hd1, trivial, fun od => ?_⟩
    have hPf : Pr2 K (upd H1 dd (.frz od (.dK kvs))) ns (fun n => .str (hk n)) (fun n => .int (wt n)) kvs := hP1.set hd1 (noTup_dK _)
    refine ⟨_, rfl, dd, od, rfl, .inl ⟨kvs, upd_same, fun D hD => fillD walk_keys (fun i H' => Same (upd H1 dd (.frz od (.dK kvs))) H' ∧ H' D = some (.dK (kvF (ns.take i) fun n => .str (hk n)))) ⟨Same.new hD, upd_same⟩ (fun i H' _ h => h.1 _ _ upd_same) ?_ (fun H2 h2 => ?_)⟩⟩
    · rintro i x H' H'' hi ⟨s2, hD2⟩ ⟨rfl, key, v, hkv, rfl⟩
      obtain ⟨hi1, a, rfl, rfl, hq⟩ := hPf.get hkv
      have hm := List.getElem_mem hi1
      obtain ⟨a2, hv, hq2⟩ := hPf.val kN hm
      refine ⟨rfl, _, rfl, _, rfl, _, rfl, dd, .ref a2, rfl, .inl ⟨kvs, .inr ns[i], .inr ⟨od, s2 _ _ upd_same⟩, rfl, hv.symm⟩, _, _, _, _, rfl, rfl, stUp hq2 s2, rfl, _, .inr ns[i], rfl, hD2, ?_, ?_, ?_⟩
      · rw [kvF_len, List.length_take]; exact Nat.lt_of_le_of_lt (show min i _ ≤ 64 by omega) (by decide)
      · exact fun c u e => by rw [upd_ne (ne_of_none e hD)]; exact s2 _ _ e
      · rw [put_new _ _ _ (by
          rw [kvF_keys]
          intro m
          obtain ⟨z, hz, ez⟩ := List.mem_map.mp m
          exact not_in_take kN hi1 (by rw [← Sum.inr.inj ez]; exact hz)), upd_same, List.take_succ, List.getElem?_eq_getElem hi1]
        exact congrArg (fun z => some (HO.dK z)) (kvF_snoc (ns.take i) ns[i] fun n => .str (hk n)).symm
    obtain ⟨s2, hD2⟩ := h2
    rw [hP.len, List.take_length] at hD2
    have nDd : D ≠ dd := fun e => by rw [e, upd_same] at hD; cases hD
    refine ⟨s2 _ _ upd_same, ?_⟩
    have S2 : Same H1 (upd H2 dd (.dK kvs)) := unfrz hd1 s2
    have hD3 : upd H2 dd (.dK kvs) D = some (.dK (kvR (rowsF ns hk))) := by rw [upd_ne nDd, kvR_F]; exact hD2
    generalize upd H2 dd (.dK kvs) = H3 at S2 hD3 ⊢
    have S3 := s1.trans S2
    clear s2 hPf hD2 hD hP1 hd1
    refine ⟨D, rk, rowsF ns hk, rfl, hD3, hO, fun H4 s4 => ?_⟩
    have S4 := S3.trans s4
    clear hD3 S3 S2 s4 s1
    have hd4 := S4 _ _ hd
    have hP4 := hP.up S4
    -- self.hooks
    refine ⟨_, rfl, dd, kvs, ns, rfl, .inl hd4, hP.keys, hl, fun ys q hperm hsort hq => ?_⟩
    have yN : ys.Nodup := hperm.nodup_iff.mpr kN
    have yl : ys.length < 64 := by rw [hperm.length_eq]; exact hl
    refine ⟨q, rfl, ⟨_, SqL.of upd_same⟩, fun D hD => fillD walk_list (fun i H' => Same (upd H4 q (.lst (ys.map V.str))) H' ∧ H' D = some (.dK (kvF (ys.take i) fun n => .str (hk n)))) ⟨Same.new hD, upd_same⟩ (fun i H' _ h => SqL.of (h.1 _ _ upd_same)) ?_ (fun H5 h5 => ?_)⟩
    · rintro i x H' H'' hi1 ⟨s5, hD5⟩ ⟨rfl, hx⟩
      obtain ⟨hi1, rfl⟩ := str_at hx
      have hm : ys[i] ∈ ns := hperm.mem_iff.mp (List.getElem_mem hi1)
      have S5 : Same H4 H'' := (Same.new hq).trans s5
      obtain ⟨a2, hv, hq2⟩ := hP4.val kN hm
      refine ⟨rfl, _, rfl, _, rfl, _, rfl, dd, .ref a2, rfl, .inl ⟨kvs, .inr ys[i], .inl (S5 _ _ hd4), rfl, hv.symm⟩, _, _, _, _, rfl, rfl, stUp hq2 S5, rfl, _, .inr ys[i], rfl, hD5, ?_, ?_, ?_⟩
      · rw [kvF_len, List.length_take]; exact Nat.lt_of_le_of_lt (show min i _ ≤ 64 by omega) (by decide)
      · exact fun c u e => by rw [upd_ne (ne_of_none e hD)]; exact s5 _ _ e
      · rw [put_new _ _ _ (by
          rw [kvF_keys]
          intro m
          obtain ⟨z, hz, ez⟩ := List.mem_map.mp m
          exact not_in_take yN hi1 (by rw [← Sum.inr.inj ez]; exact hz)), upd_same, List.take_succ, List.getElem?_eq_getElem hi1]
        exact congrArg (fun z => some (HO.dK z)) (kvF_snoc (ys.take i) ys[i] fun n => .str (hk n)).symm
    obtain ⟨s5, hD5⟩ := h5
    rw [List.length_map, List.take_length] at hD5
    have S5 : Same H4 H5 := (Same.new hq).trans s5
    have hp5 := S5 _ _ (S4 _ _ hp)
    have nDp : D ≠ p := fun e => by rw [e, hp5] at hD5; cases hD5
    have nDd : D ≠ dd := fun e => by rw [e, Same.new hq _ _ hd4] at hD; cases hD
    refine ⟨_, rfl, p, A.a_Book, dx, _, rfl, hp5, T.cl_B, T.nBH, by decide, ?_⟩
    have hd5 := S5 _ _ hd4
    have hP5 := hP4.up S5
    have E5 : Same (er H p) (er (upd H5 p (.ins A.a_Book dx (putF "hooks" (.ref D) []))) p) := by rw [er_upd]; exact er_mono (S4.trans S5)
    have hD6 : upd H5 p (.ins A.a_Book dx (putF "hooks" (.ref D) [])) D = some (.dK (kvF ys fun n => .str (hk n))) := by rw [upd_ne nDp]; exact hD5
    have hd6 : upd H5 p (.ins A.a_Book dx (putF "hooks" (.ref D) [])) dd = some (.dK kvs) := by rw [upd_ne npd]; exact hd5
    have hP6 : Pr2 K (upd H5 p (.ins A.a_Book dx (putF "hooks" (.ref D) []))) ns (fun n => .str (hk n)) (fun n => .int (wt n)) kvs := hP5.set hp5 (noTup_ins _ _ _)
    have hp6 : upd H5 p (.ins A.a_Book dx (putF "hooks" (.ref D) [])) p = some (.ins A.a_Book dx (putF "hooks" (.ref D) [])) := upd_same
    generalize upd H5 p (.ins A.a_Book dx (putF "hooks" (.ref D) [])) = H6 at E5 hD6 hd6 hP6 hp6 ⊢
    clear hd5 hP5 hp5 S5 s5 hD5 hD hq hP4 hd4
    -- self.waits
    refine ⟨D, _, hD6, trivial, fun od => ?_⟩
    have npD : p ≠ D := fun e => nDp e.symm
    have hp7 : upd H6 D (.frz od (.dK (kvF ys fun n => .str (hk n)))) p = some (.ins A.a_Book dx (putF "hooks" (.ref D) [])) := by rw [upd_ne npD]; exact hp6
    have hd7 : upd H6 D (.frz od (.dK (kvF ys fun n => .str (hk n)))) dd = some (.dK kvs) := by rw [upd_ne nDd.symm]; exact hd6
    have hP7 : Pr2 K (upd H6 D (.frz od (.dK (kvF ys fun n => .str (hk n))))) ns (fun n => .str (hk n)) (fun n => .int (wt n)) kvs := hP6.set hD6 (noTup_dK _)
    refine ⟨_, rfl, p, A.a_Book, dx, _, _, rfl, hp7, T.cl_B, T.nBH, rfl, D, od, rfl, .inl ⟨_, upd_same, fun D2 hD2 => fillD walk_keys (fun i H' => Same (upd H6 D (.frz od (.dK (kvF ys fun n => .str (hk n))))) H' ∧ H' D2 = some (.dK (kvF (ys.take i) fun n => .int (wt n)))) ⟨Same.new hD2, upd_same⟩ (fun i H' _ h => h.1 _ _ upd_same) ?_ (fun H8 h8 => ?_)⟩⟩
    · rintro i x H' H'' hi ⟨s8, hD8⟩ ⟨rfl, key, v, hkv, rfl⟩
      obtain ⟨hi1, rfl, rfl⟩ := kvF_at hkv
      have hm : ys[i] ∈ ns := hperm.mem_iff.mp (List.getElem_mem hi1)
      obtain ⟨a2, hv, hq2⟩ := hP7.val kN hm
      refine ⟨rfl, _, rfl, _, rfl, _, rfl, dd, .ref a2, rfl, .inl ⟨kvs, .inr ys[i], .inl (s8 _ _ hd7), rfl, hv.symm⟩, _, _, _, _, rfl, rfl, stUp hq2 s8, rfl, _, .inr ys[i], rfl, hD8, ?_, ?_, ?_⟩
      · rw [kvF_len, List.length_take]; exact Nat.lt_of_le_of_lt (show min i _ ≤ 64 by omega) (by decide)
      · exact fun c u e => by rw [upd_ne (ne_of_none e hD2)]; exact s8 _ _ e
      · rw [put_new _ _ _ (by
          rw [kvF_keys]
          intro m
          obtain ⟨z, hz, ez⟩ := List.mem_map.mp m
          exact not_in_take yN hi1 (by rw [← Sum.inr.inj ez]; exact hz)), upd_same, List.take_succ, List.getElem?_eq_getElem hi1]
        exact congrArg (fun z => some (HO.dK z)) (kvF_snoc (ys.take i) ys[i] fun n => .int (wt n)).symm
    obtain ⟨s8, hD8⟩ := h8
    rw [kvF_len, List.take_length] at hD8
    have nDD : D2 ≠ D := fun e => by rw [e, upd_same] at hD2; cases hD2
    refine ⟨s8 _ _ upd_same, ?_⟩
    have S8 : Same H6 (upd H8 D (.dK (kvF ys fun n => .str (hk n)))) := unfrz hD6 s8
    have hD9 : upd H8 D (.dK (kvF ys fun n => .str (hk n))) D2 = some (.dK (kvF ys fun n => .int (wt n))) := by rw [upd_ne nDD]; exact hD8
    generalize upd H8 D (.dK (kvF ys fun n => .str (hk n))) = H9 at S8 hD9 ⊢
    have hp9 := S8 _ _ hp6
    have nD2p : D2 ≠ p := fun e => by rw [e, hp9] at hD9; cases hD9
    refine ⟨_, rfl, p, A.a_Book, dx, _, rfl, hp9, T.cl_B, T.nBW, Nat.lt_of_le_of_lt (putF_len _ _ _) (by decide), ?_⟩
    refine k _ ys ⟨dx, D, D2, by rw [upd_same, fld2], by rw [upd_ne nDp]; exact S8 _ _ hD6, by rw [upd_ne nD2p]; exact hD9⟩ hperm hsort ?_
    rw [er_upd]
    exact E5.trans (er_mono S8)
end
end K5
set_option Elab.async false
set_option linter.all false
set_option maxRecDepth 100000
set_option maxHeartbeats 4000000
namespace K5
open PySem L2
local macro_rules | `(tactic| walk_at "rd1") => `(tactic| first
  | refine ⟨_, _, rfl, rfl, ?_⟩
  | refine ⟨_, _, _, _, rfl, rfl, SqL.of (by assumption), rfl, ?_⟩
  | refine ⟨_, _, _, _, rfl, rfl, (by assumption), rfl, ?_⟩
  | refine .inl ⟨_, rfl, ?_⟩
  | refine ⟨_, rfl, ?_⟩
  | refine ⟨(by unfold CMul; omega), ?_⟩
  | refine ⟨(by unfold CPow; omega), ?_⟩
  | refine ⟨(by (try dsimp only); omega), ?_⟩
  | refine ⟨(by unfold CDiv; omega), ?_⟩
  | fail "rd1")
local macro_rules | `(tactic| walk_at "rd") => `(tactic| repeat' (walk_at "rd1"))
section
variable {P : Program} {w : World} {K : PySem.W.Frag} {mg : Str → Option Value} {base : Heap} {A : Ad}
def spChkDishP (K : PySem.W.Frag) : Sp := fun vs H Q _ => ∃ (n : Str) (dd : Addr) (kvs : List (Key × V)), vs = [.str n, .ref dd] ∧ Rd H dd (.dK kvs) ∧ (valV kvs (.inr n)).isSome = true ∧ Q .non H
theorem ok_chkdishP (T : Txt K mg A) : FnOk P w K mg base CX0 2 A.a_check_dish A.d_check_dish P_check_dish (spChkDishP K) := by
  have G_is_dish : FnOk P w K mg base CX0 1 A.a_is_dish A.d_is_dish P_is_dish (spIsDish K) := ok_isdish T
  refine T.f_check_dish.ok sc_check_dish (fun vs H Q E h => ?_) (fun cdv A' outer s H vs Q E hr h => ?_)
  · obtain ⟨n, dd, kvs, rfl, _⟩ := h
    rfl
  · obtain ⟨n, dd, kvs, rfl, hd, hs, k⟩ := h
    refine ⟨_, (pss_one (ps_if (pt_not (pt_val (pe_call G_is_dish (hr.mono (by omega)) (by rfl) T.g_is_dish T.f_is_dish.kp T.b_is_dish .nil pass0 (pa_cons (pv 0) (pa_cons (pv 1) pa_nil)))))
 (pss_one ps_never)
 pss_nil)), ?_⟩
    refine ⟨_, rfl, _, rfl, .str n, dd, kvs, rfl, hd, .inl ⟨n, rfl, _, rfl, ?_⟩⟩
    rw [hs]
    exact iteF k
end
end K5
set_option Elab.async false
set_option linter.all false
set_option maxRecDepth 100000
set_option maxHeartbeats 4000000
namespace K5
open PySem L2
local macro_rules | `(tactic| walk_at "rd1") => `(tactic| first
  | refine ⟨_, _, rfl, rfl, ?_⟩
  | refine ⟨_, _, _, _, rfl, rfl, SqL.of (by assumption), rfl, ?_⟩
  | refine ⟨_, _, _, _, rfl, rfl, (by assumption), rfl, ?_⟩
  | refine .inl ⟨_, rfl, ?_⟩
  | refine ⟨_, rfl, ?_⟩
  | refine ⟨(by unfold CMul; omega), ?_⟩
  | refine ⟨(by unfold CPow; omega), ?_⟩
  | refine ⟨(by (try dsimp only); omega), ?_⟩
  | refine ⟨(by unfold CDiv; omega), ?_⟩
  | fail "rd1")
local macro_rules | `(tactic| walk_at "rd") => `(tactic| repeat' (walk_at "rd1"))
section
variable {P : Program} {w : World} {K : PySem.W.Frag} {mg : Str → Option Value} {base : Heap} {A : Ad}
theorem eqv_strs_refl (ss : List Str) : PyData.eqv (.list (ss.map PyData.str)) (.list (ss.map PyData.str)) = true := by
  have h : ∀ ss : List Str, PyData.eqvAll (ss.map PyData.str) (ss.map PyData.str) = true := fun ss => by
    induction ss with
    | nil => simp [PyData.eqvAll]
    | cons s ss ih => simp [PyData.eqvAll, PyData.eqv, ih]
  simp [PyData.eqv, h]
theorem keysV {kvs : List (Key × V)} {ns : List Str} (h : kvs.map (·.1) = ns.map Sum.inr) : (kvs.map fun kv => kV kv.1) = ns.map V.str := by
  have : (kvs.map fun kv => kV kv.1) = (kvs.map (·.1)).map kV := by rw [List.map_map]; rfl
  rw [this, h, List.map_map]; rfl
end
end K5
set_option Elab.async false
set_option linter.all false
set_option maxRecDepth 100000
set_option maxHeartbeats 4000000
namespace K5
open PySem L2
local macro_rules | `(tactic| walk_at "rd1") => `(tactic| first
  | refine ⟨_, _, rfl, rfl, ?_⟩
  | refine ⟨_, _, _, _, rfl, rfl, SqL.of (by assumption), rfl, ?_⟩
  | refine ⟨_, _, _, _, rfl, rfl, (by assumption), rfl, ?_⟩
  | refine .inl ⟨_, rfl, ?_⟩
  | refine ⟨_, rfl, ?_⟩
  | refine ⟨(by unfold CMul; omega), ?_⟩
  | refine ⟨(by unfold CPow; omega), ?_⟩
  | refine ⟨(by (try dsimp only); omega), ?_⟩
  | refine ⟨(by unfold CDiv; omega), ?_⟩
  | fail "rd1")
local macro_rules | `(tactic| walk_at "rd") => `(tactic| repeat' (walk_at "rd1"))
section
variable {P : Program} {w : World} {K : PySem.W.Frag} {mg : Str → Option Value} {base : Heap} {A : Ad}
theorem eqv_strs_dec (xs ys : List Str) : PyData.eqv (.list (xs.map PyData.str)) (.list (ys.map PyData.str)) = decide (xs = ys) := by
  rw [Bool.eq_iff_iff, decide_eq_true_iff]
  constructor
  · intro h
    have h2 : PyData.eqvAll (xs.map PyData.str) (ys.map PyData.str) = true := by simpa [PyData.eqv] using h
    exact eqvAll_strs h2
  · intro e; rw [e]; exact eqv_strs_refl ys
def spSameD (K : PySem.W.Frag) (CM CB : Addr) : Sp := fun vs H Q _ => ∃ (p b : Addr) (ys zs : List Str) (lo hi : Str → Int) (ds es : List PyData) (hk : Str → Str) (wt : Str → Int), vs = [.ref p, .ref b] ∧ MlAt K CM H p ys lo hi ds es ∧ BkAt CB H b zs hk wt ∧ ys.length < 64 ∧ (∀ n ∈ ys, PyData.strOk n = true) ∧ (∀ n ∈ zs, PyData.strOk n = true) ∧
  ys = zs ∧ ∀ H', Same H H' → Q .non H'
theorem ok_chksame (T : Txt K mg A) : FnOk P w K mg base CX0 6 A.a_check_same A.d_check_same P_check_same (spSameD K A.a_Meal A.a_Book) := by
  refine T.f_check_same.ok sc_check_same (fun vs H Q E h => ?_) (fun cdv A' outer s H vs Q E hr h => ?_)
  · obtain ⟨p, b, ys, zs, lo, hi, ds, es, hk, wt, rfl, _⟩ := h
    rfl
  · obtain ⟨p, b, ys, zs, lo, hi, ds, es, hk, wt, rfl, M, B, hl, ok, ok2, k⟩ := h
    obtain ⟨dy, qh, qx, hp2, hh, hx⟩ := B.ex
    obtain ⟨dx, qb, qw, qp, kvs, ws, ps, hp, hb, hP, hw, hA, _, _⟩ := M.ex
    refine ⟨_, (pss_one (ps_if (pt_cmpR (op_neD hr.units) (pe_lock (pe_callTy (Own.call_listIL (fun _ => ok_miter T) T.b_Meal___iter__ pass0 rfl (hr.mono (by omega)) (hr.mono (by omega)) T.m_iterM.1 T.m_iterM.2 (ok_mlenR T) T.b_Meal___len__ T.m_lenM.1 T.m_lenM.2) (by rfl) T.list (by decide +kernel) (pa_cons (pv 0) pa_nil))) (pe_lock (pe_callTy (Own.call_listIt (fun _ => ok_biter T) T.b_Book___iter__ pass0 rfl (hr.mono (by omega)) T.m_iterB.1 T.m_iterB.2 T.nLenB T.nHintB) (by rfl) T.list (by decide +kernel) (pa_cons (pv 1) pa_nil))) (nomark _))
 (pss_one ps_never)
 pss_nil)), ?_⟩
    -- list(meal)
    refine ⟨qb, _, hb, trivial, fun od => ?_⟩
    have npq : p ≠ qb := fun e => by rw [e, hb] at hp; cases hp
    have z1 : ∀ {o : HO}, upd H qb o p = some (.ins A.a_Meal dx [("bounds", .ref qb), ("wished", .ref qw), ("places", .ref qp)]) := fun {o} => by rw [upd_ne npq]; exact hp
    refine ⟨_, rfl, p, dx, _, rfl, z1, fun S nS m => ?_⟩
    have nSq : S ≠ qb := fun e => by rw [e, upd_same] at nS; cases nS
    have nS0 : H S = none := by rw [upd_ne nSq] at nS; exact nS
    have z2 : ∀ {o : HO}, upd (upd H qb (.frz od (.dK kvs))) S o p = some (.ins A.a_Meal dx [("bounds", .ref qb), ("wished", .ref qw), ("places", .ref qp)]) := fun {o} => Same.new nS _ _ z1
    have z3 : ∀ {o : HO}, upd (upd H qb (.frz od (.dK kvs))) S o qb = some (.frz od (.dK kvs)) := fun {o} => Same.new nS _ _ upd_same
    have kl : kvs.length ≤ sizeLine := by rw [hP.len]; exact Nat.le_trans (show ys.length ≤ 64 by omega) (by decide)
    refine ⟨p, dx, qb, qw, qp, od, kvs, rfl, z2, z3, fun it nit hm => ⟨it, qb, od, kvs, rfl, upd_same, Same.new nit _ _ z3, Same.new nit _ _ upd_same, hm, ⟨dx, _, Same.new nit _ _ z2⟩, ⟨p, dx, qb, qw, qp, kvs, rfl, Same.new nit _ _ z2, .inr ⟨od, Same.new nit _ _ z3⟩, kvs.length, rfl, kl, rfl⟩, ?_⟩⟩
    rw [ItX.dropH_upd nit, upd_upd, keysV hP.keys]
    refine ⟨Same.new nS _ _ upd_same, ?_⟩
    have s1 : Same H (upd (upd (upd H qb (.frz od (.dK kvs))) S (.lst (ys.map V.str))) qb (.dK kvs)) := unfrz hb (Same.new nS)
    have hS1 : upd (upd (upd H qb (.frz od (.dK kvs))) S (.lst (ys.map V.str))) qb (.dK kvs) S = some (.lst (ys.map V.str)) := by rw [upd_ne nSq, upd_same]
    generalize upd (upd (upd H qb (.frz od (.dK kvs))) S (.lst (ys.map V.str))) qb (.dK kvs) = H1 at s1 hS1 ⊢
    clear z1 z2 z3 nS nSq nS0
    -- list(tree)
    have hp3 := s1 _ _ hp2
    have hh3 := s1 _ _ hh
    refine ⟨qh, _, hh3, trivial, fun od => ?_⟩
    have npq : b ≠ qh := fun e => by rw [e, hh] at hp2; cases hp2
    have z1 : ∀ {o : HO}, upd H1 qh o b = some (.ins A.a_Book dy [("hooks", .ref qh), ("waits", .ref qx)]) := fun {o} => by rw [upd_ne npq]; exact hp3
    refine ⟨_, rfl, b, dy, _, rfl, z1, fun S2 nS m => ?_⟩
    have nSq : S2 ≠ qh := fun e => by rw [e, upd_same] at nS; cases nS
    have z2 : ∀ {o : HO}, upd (upd H1 qh (.frz od (.dK (kvF zs fun n => .str (hk n))))) S2 o b = some (.ins A.a_Book dy [("hooks", .ref qh), ("waits", .ref qx)]) := fun {o} => Same.new nS _ _ z1
    have z3 : ∀ {o : HO}, upd (upd H1 qh (.frz od (.dK (kvF zs fun n => .str (hk n))))) S2 o qh = some (.frz od (.dK (kvF zs fun n => .str (hk n)))) := fun {o} => Same.new nS _ _ upd_same
    refine ⟨b, dy, qh, qx, od, kvF zs fun n => .str (hk n), rfl, z2, z3, fun it nit hm => ⟨it, qh, od, kvF zs fun n => .str (hk n), rfl, upd_same, Same.new nit _ _ z3, Same.new nit _ _ upd_same, hm, ⟨dy, _, Same.new nit _ _ z2⟩, ?_⟩⟩
    rw [ItX.dropH_upd nit, upd_upd, keysV (kvF_keys zs fun n => .str (hk n))]
    refine ⟨Same.new nS _ _ upd_same, ?_⟩
    have s2 : Same H1 (upd (upd (upd H1 qh (.frz od (.dK (kvF zs fun n => .str (hk n))))) S2 (.lst (zs.map V.str))) qh (.dK (kvF zs fun n => .str (hk n)))) := unfrz hh3 (Same.new nS)
    have hS2 : upd (upd (upd H1 qh (.frz od (.dK (kvF zs fun n => .str (hk n))))) S2 (.lst (zs.map V.str))) qh (.dK (kvF zs fun n => .str (hk n))) S2 = some (.lst (zs.map V.str)) := by rw [upd_ne nSq, upd_same]
    generalize upd (upd (upd H1 qh (.frz od (.dK (kvF zs fun n => .str (hk n))))) S2 (.lst (zs.map V.str))) qh (.dK (kvF zs fun n => .str (hk n))) = H2 at s2 hS2 ⊢
    refine ⟨.list (ys.map PyData.str), .list (zs.map PyData.str), .lst (SqL.of (s2 _ _ hS1)) (dpStrs _), .lst (SqL.of hS2) (dpStrs _), strs_shaped ok, strs_shaped ok2, _, rfl, ?_⟩
    rw [eqv_strs_dec]
    rw [decide_eq_true k.1]
    exact iteF (k.2 _ (s1.trans s2))
end
end K5
set_option Elab.async false
set_option linter.all false
set_option maxRecDepth 100000
set_option maxHeartbeats 4000000
namespace K5
open PySem L2
local macro_rules | `(tactic| walk_at "rd1") => `(tactic| first
  | refine ⟨_, _, rfl, rfl, ?_⟩
  | refine ⟨_, _, _, _, rfl, rfl, SqL.of (by assumption), rfl, ?_⟩
  | refine ⟨_, _, _, _, rfl, rfl, (by assumption), rfl, ?_⟩
  | refine .inl ⟨_, rfl, ?_⟩
  | refine ⟨_, rfl, ?_⟩
  | refine ⟨(by unfold CMul; omega), ?_⟩
  | refine ⟨(by unfold CPow; omega), ?_⟩
  | refine ⟨(by (try dsimp only); omega), ?_⟩
  | refine ⟨(by unfold CDiv; omega), ?_⟩
  | fail "rd1")
local macro_rules | `(tactic| walk_at "rd") => `(tactic| repeat' (walk_at "rd1"))
section
variable {P : Program} {w : World} {K : PySem.W.Frag} {mg : Str → Option Value} {base : Heap} {A : Ad}
theorem merge_all : ∀ (kvs acc : List (Key × V)), ((acc ++ kvs).map (·.1)).Nodup → mergeK acc kvs = acc ++ kvs
  | [], acc, _ => (List.append_nil acc).symm
  | (k, v) :: r, acc, h => by
    have e : mergeK acc ((k, v) :: r) = mergeK (putK acc k v) r := rfl
    have e2 : (acc ++ (k, v) :: r) = (acc ++ [(k, v)]) ++ r := by rw [List.append_assoc]; rfl
    rw [e2] at h
    have hn : k ∉ acc.map (·.1) := fun m => by
      rw [List.map_append, List.map_append, List.append_assoc] at h
      exact (List.nodup_append.mp h).2.2 _ m _ (List.mem_append_left _ (List.mem_singleton.mpr rfl)) rfl
    rw [e, put_new acc k v hn, merge_all r _ h, e2]
theorem paired_snoc {α β : Type} {R : α → β → Prop} : ∀ {xs : List α} {ys : List β} {x : α} {y : β}, Paired R xs ys → R x y → Paired R (xs ++ [x]) (ys ++ [y])
  | _, _, _, _, .nil, h => .cons h .nil
  | _, _, _, _, .cons a b, h => .cons a (paired_snoc b h)
theorem paired_imp {α β : Type} {R S : α → β → Prop} (f : ∀ a b, R a b → S a b) : ∀ {xs : List α} {ys : List β}, Paired R xs ys → Paired S xs ys
  | _, _, .nil => .nil
  | _, _, .cons a b => .cons (f _ _ a) (paired_imp f b)
theorem Sta.at_ {H : Hp} {st c t : Addr} {b : Int} {u o : HO} (h : Sta H st c b) (ht : er H st t = some u) (hu : ∀ xs, u ≠ .lst xs) : Sta (upd H t o) st c b := by
  obtain ⟨cs, i, l, m, n, h1, h2, h3⟩ := h.ex
  have ns := (er_some ht).1
  have nc : c ≠ t := fun e => by rw [e, ht] at h2; exact hu _ (Option.some.inj h2)
  exact ⟨cs, i, l, m, n, by rw [upd_ne ns.symm]; exact h1, by rw [er_updp ns, upd_ne nc]; exact h2, h3⟩
theorem Gs.unlock {H H' : Hp} {st c t : Addr} {b b0 : Int} {u o : HO} (S0 : Sta H st c b0) (ht : er H st t = some u) (hu : ∀ xs, u ≠ .lst xs) (g : Gs st c (upd H t o) H' b) : Gs st c H (upd H' t u) b := by
  have ns := (er_some ht).1
  obtain ⟨cs0, i0, l0, m0, n0, _, c0, _⟩ := S0.ex
  have nc : c ≠ t := fun e => by rw [e, ht] at c0; exact hu _ (Option.some.inj c0)
  obtain ⟨cs, i, l, m, n, h1, h2, h3⟩ := g.sta.ex
  refine ⟨⟨cs, i, l, m, n, by rw [upd_ne ns.symm]; exact h1, by rw [er_updp ns, upd_ne nc]; exact h2, h3⟩, fun x v e => ?_⟩
  rw [er_updp ns]
  by_cases hx : x = t
  · subst hx; rw [upd_same]; rw [ht] at e; exact e
  · rw [upd_ne hx]
    exact g.same _ _ (by rw [er_updp ns, upd_ne hx]; exact e)
end
end K5
set_option Elab.async false
set_option linter.all false
set_option maxRecDepth 100000
set_option maxHeartbeats 4000000
namespace K5
open PySem L2
local macro_rules | `(tactic| walk_at "rd1") => `(tactic| first
  | refine ⟨_, _, rfl, rfl, ?_⟩
  | refine ⟨_, _, _, _, rfl, rfl, SqL.of (by assumption), rfl, ?_⟩
  | refine ⟨_, _, _, _, rfl, rfl, (by assumption), rfl, ?_⟩
  | refine .inl ⟨_, rfl, ?_⟩
  | refine ⟨_, rfl, ?_⟩
  | refine ⟨(by unfold CMul; omega), ?_⟩
  | refine ⟨(by unfold CPow; omega), ?_⟩
  | refine ⟨(by (try dsimp only); omega), ?_⟩
  | refine ⟨(by unfold CDiv; omega), ?_⟩
  | fail "rd1")
local macro_rules | `(tactic| walk_at "rd") => `(tactic| repeat' (walk_at "rd1"))
section
variable {P : Program} {w : World} {K : PySem.W.Frag} {mg : Str → Option Value} {base : Heap} {A : Ad}
theorem ROk.perm {rk : Str → Nat} {ns ys : List Str} {hk : Str → Str} (h : ROk rk (rowsF ns hk)) (p : ys.Perm ns) : ROk rk (rowsF ys hk) := by
  have nd : ns.Nodup := by have := h.nd; rwa [ksR_F] at this
  have hl : ns.length < 64 := by have := h.len; rwa [← ksR_len, ksR_F] at this
  have up : ∀ k x, (k, x) ∈ rowsF ys hk → (k, x) ∈ rowsF ns hk := fun k x m => by
    obtain ⟨m1, e⟩ := of_mem_F m
    rw [e]; exact mem_F (p.mem_iff.mp m1)
  refine ⟨by rw [ksR_F]; exact p.nodup_iff.mpr nd, fun s m => h.nm s ?_, ?_, fun k x m => (h.acy k x (up k x m)).imp_right fun e => ⟨?_, e.2⟩, fun s m => h.rkb s ?_⟩
  · rw [ksR_F] at m ⊢; exact p.mem_iff.mp m
  · rw [← ksR_len, ksR_F, p.length_eq]; exact hl
  · have := e.1
    rw [ksR_F] at this ⊢; exact p.mem_iff.mpr this
  · rw [ksR_F] at m ⊢; exact p.mem_iff.mp m
end
end K5
set_option Elab.async false
set_option linter.all false
set_option maxRecDepth 100000
set_option maxHeartbeats 4000000
namespace K5
open PySem L2
local macro_rules | `(tactic| walk_at "rd1") => `(tactic| first
  | refine ⟨_, _, rfl, rfl, ?_⟩
  | refine ⟨_, _, _, _, rfl, rfl, SqL.of (by assumption), rfl, ?_⟩
  | refine ⟨_, _, _, _, rfl, rfl, (by assumption), rfl, ?_⟩
  | refine .inl ⟨_, rfl, ?_⟩
  | refine ⟨_, rfl, ?_⟩
  | refine ⟨(by unfold CMul; omega), ?_⟩
  | refine ⟨(by unfold CPow; omega), ?_⟩
  | refine ⟨(by (try dsimp only); omega), ?_⟩
  | refine ⟨(by unfold CDiv; omega), ?_⟩
  | fail "rd1")
local macro_rules | `(tactic| walk_at "rd") => `(tactic| repeat' (walk_at "rd1"))
section
variable {P : Program} {w : World} {K : PySem.W.Frag} {mg : Str → Option Value} {base : Heap} {A : Ad}
/-- a meal's bounds, also while they are locked -/
def MlR (K : PySem.W.Frag) (C : Addr) (H : Hp) (p : Addr) (ys : List Str) (lo hi : Str → Int) : Prop := ∃ (dx qb qw qp : Addr) (kvs : List (Key × V)), H p = some (.ins C dx [("bounds", .ref qb), ("wished", .ref qw), ("places", .ref qp)]) ∧ Rd H qb (.dK kvs) ∧ Pr2 K H ys (fun n => .int (lo n)) (fun n => .int (hi n)) kvs
theorem MlR.up {C : Addr} {H H' : Hp} {p : Addr} {ys : List Str} {lo hi : Str → Int} (h : MlR K C H p ys lo hi) (s : Same H H') : MlR K C H' p ys lo hi := by
  obtain ⟨dx, qb, qw, qp, kvs, h1, h2, h3⟩ := h
  exact ⟨dx, qb, qw, qp, kvs, s _ _ h1, rdUp h2 s, h3.up s⟩
theorem MlAt.r {C : Addr} {H : Hp} {p : Addr} {ys : List Str} {lo hi : Str → Int} {ds es : List PyData} (M : MlAt K C H p ys lo hi ds es) : MlR K C H p ys lo hi := by
  obtain ⟨dx, qb, qw, qp, kvs, ws, ps, hp, hb, hP, _⟩ := M.ex
  exact ⟨dx, qb, qw, qp, kvs, hp, .inl hb, hP⟩
/-- a lock on another dict keeps books -/
theorem BkAt.frz {C : Addr} {H : Hp} {p d : Addr} {zs : List Str} {hk : Str → Str} {wt : Str → Int} {kvs : List (Key × V)} {od : Obj} (B : BkAt C H p zs hk wt) (hd : H d = some (.dK kvs)) (hn : ∃ n a, (Sum.inr n, V.ref a) ∈ kvs) : BkAt C (upd H d (.frz od (.dK kvs))) p zs hk wt := by
  obtain ⟨dx, qh, qw, h1, h2, h3⟩ := B.ex
  obtain ⟨n, a, hm⟩ := hn
  have n1 : p ≠ d := fun e => by rw [e, hd] at h1; cases h1
  have n2 : qh ≠ d := fun e => by
    rw [e, hd] at h2
    have e2 := HO.dK.inj (Option.some.inj h2)
    rw [e2] at hm
    obtain ⟨z, _, ez⟩ := List.mem_map.mp hm
    cases ez
  have n3 : qw ≠ d := fun e => by
    rw [e, hd] at h3
    have e2 := HO.dK.inj (Option.some.inj h3)
    rw [e2] at hm
    obtain ⟨z, _, ez⟩ := List.mem_map.mp hm
    cases ez
  exact ⟨dx, qh, qw, by rw [upd_ne n1]; exact h1, by rw [upd_ne n2]; exact h2, by rw [upd_ne n3]; exact h3⟩
end
end K5
set_option Elab.async false
set_option linter.all false
set_option maxRecDepth 100000
set_option maxHeartbeats 4000000
namespace K5
open PySem L2
local macro_rules | `(tactic| walk_at "rd1") => `(tactic| first
  | refine ⟨_, _, rfl, rfl, ?_⟩
  | refine ⟨_, _, _, _, rfl, rfl, SqL.of (by assumption), rfl, ?_⟩
  | refine ⟨_, _, _, _, rfl, rfl, (by assumption), rfl, ?_⟩
  | refine .inl ⟨_, rfl, ?_⟩
  | refine ⟨_, rfl, ?_⟩
  | refine ⟨(by unfold CMul; omega), ?_⟩
  | refine ⟨(by unfold CPow; omega), ?_⟩
  | refine ⟨(by (try dsimp only); omega), ?_⟩
  | refine ⟨(by unfold CDiv; omega), ?_⟩
  | fail "rd1")
local macro_rules | `(tactic| walk_at "rd") => `(tactic| repeat' (walk_at "rd1"))
section
variable {P : Program} {w : World} {K : PySem.W.Frag} {mg : Str → Option Value} {base : Heap} {A : Ad}
theorem len2 {α : Type} {xs : List α} (h : xs.length = 2) : ∃ x y, xs = [x, y] := match xs, h with | [x, y], _ => ⟨x, y, rfl⟩
end
end K5
set_option Elab.async false
set_option linter.all false
set_option maxRecDepth 100000
set_option maxHeartbeats 4000000
namespace K5
open PySem L2
local macro_rules | `(tactic| walk_at "rd1") => `(tactic| first
  | refine ⟨_, _, rfl, rfl, ?_⟩
  | refine ⟨_, _, _, _, rfl, rfl, SqL.of (by assumption), rfl, ?_⟩
  | refine ⟨_, _, _, _, rfl, rfl, (by assumption), rfl, ?_⟩
  | refine .inl ⟨_, rfl, ?_⟩
  | refine ⟨_, rfl, ?_⟩
  | refine ⟨(by unfold CMul; omega), ?_⟩
  | refine ⟨(by unfold CPow; omega), ?_⟩
  | refine ⟨(by (try dsimp only); omega), ?_⟩
  | refine ⟨(by unfold CDiv; omega), ?_⟩
  | fail "rd1")
local macro_rules | `(tactic| walk_at "rd") => `(tactic| repeat' (walk_at "rd1"))
open Own
section
variable {P : Program} {w : World} {K : PySem.W.Frag} {mg : Str → Option Value} {base : Heap} {A : Ad}
theorem MlAt.nt {C : Addr} {H : Hp} {p : Addr} {ys : List Str} {lo hi : Str → Int} {ds es : List PyData} (M : MlAt K C H p ys lo hi ds es) : MlAt K C (nt H) p ys lo hi ds es := by
  obtain ⟨dx, qb, qw, qp, kvs, ws, ps, hp, hb, hP, hw, hA, hq, hZ⟩ := M.ex
  exact ⟨dx, qb, qw, qp, kvs, ws, ps, nt_of hp (fun _ z => nomatch z), nt_of hb (fun _ z => nomatch z), hP.nt, sqtNt hw, dpAllNt hA, sqtNt hq, dpAllNt hZ⟩
theorem BkAt.nt {C : Addr} {H : Hp} {p : Addr} {ys : List Str} {hk : Str → Str} {wt : Str → Int} (B : BkAt C H p ys hk wt) : BkAt C (nt H) p ys hk wt := by
  obtain ⟨dx, qh, qw, h1, h2, h3⟩ := B.ex
  exact ⟨dx, qh, qw, nt_of h1 (fun _ z => nomatch z), nt_of h2 (fun _ z => nomatch z), nt_of h3 (fun _ z => nomatch z)⟩
end
end K5
set_option Elab.async false
set_option linter.all false
set_option maxRecDepth 100000
set_option maxHeartbeats 4000000
namespace K5
open PySem L2
local macro_rules | `(tactic| walk_at "rd1") => `(tactic| first
  | refine ⟨_, _, rfl, rfl, ?_⟩
  | refine ⟨_, _, _, _, rfl, rfl, SqL.of (by assumption), rfl, ?_⟩
  | refine ⟨_, _, _, _, rfl, rfl, (by assumption), rfl, ?_⟩
  | refine .inl ⟨_, rfl, ?_⟩
  | refine ⟨_, rfl, ?_⟩
  | refine ⟨(by unfold CMul; omega), ?_⟩
  | refine ⟨(by unfold CPow; omega), ?_⟩
  | refine ⟨(by (try dsimp only); omega), ?_⟩
  | refine ⟨(by unfold CDiv; omega), ?_⟩
  | fail "rd1")
local macro_rules | `(tactic| walk_at "rd") => `(tactic| repeat' (walk_at "rd1"))
open Own
section
variable {P : Program} {w : World} {K : PySem.W.Frag} {mg : Str → Option Value} {base : Heap} {A : Ad}
theorem atI0 {α : Type} (x : α) (r : List α) : atI (x :: r) 0 = some x := by
  unfold atI ixN
  rw [if_pos (by omega)]
  simp
theorem mk_book {H : Hp} {C dd : Addr} {kvs : List (Key × V)} {ns : List Str} {hk : Str → Str} {wt : Str → Int} {rk : Str → Nat} {Q : Addr → Hp → Prop} {E : XK}
    (hd : H dd = some (.dK kvs)) (hP : Pr2 K H ns (fun n => .str (hk n)) (fun n => .int (wt n)) kvs) (hO : ROk rk (rowsF ns hk)) (h0 : ∀ n ∈ ns, 0 ≤ wt n)
    (k : ∀ p H' ys, H p = none → Same H H' → BkAt C H' p ys hk wt → ys.Perm ns → PyProof.Rows.sortedS ys = true → Q p H') :
    ∀ p dx, H p = none → H dx = none → dx ≠ p → spBInit K C [.ref p, .ref dd] (upd (upd H dx (.own p)) p (.ins C dx [])) (fun v H' => v = .non ∧ Q p H') E := by
  intro p dx np ndx ndp
  have sM : Same H (upd (upd H dx (.own p)) p (.ins C dx [])) := fun b u e => by rw [upd_ne (ne_of_none e np), upd_ne (ne_of_none e ndx)]; exact e
  have sE : Same H (er (upd (upd H dx (.own p)) p (.ins C dx [])) p) := fun b u e => er_of (ne_of_none e np) (sM _ _ e)
  exact ⟨p, dx, dd, kvs, ns, hk, wt, rk, rfl, upd_same, sM _ _ hd, hP.up sM, hO, h0, fun H' ys B hp hs sS => ⟨rfl, k p H' ys np (fun b u e => (er_same _ _) _ _ (sS _ _ (sE _ _ e))) B hp hs⟩⟩
end
end K5
set_option Elab.async false
set_option linter.all false
set_option maxRecDepth 100000
set_option maxHeartbeats 4000000
namespace K5
open PySem L2
local macro_rules | `(tactic| walk_at "rd1") => `(tactic| first
  | refine ⟨_, _, rfl, rfl, ?_⟩
  | refine ⟨_, _, _, _, rfl, rfl, SqL.of (by assumption), rfl, ?_⟩
  | refine ⟨_, _, _, _, rfl, rfl, (by assumption), rfl, ?_⟩
  | refine .inl ⟨_, rfl, ?_⟩
  | refine ⟨_, rfl, ?_⟩
  | refine ⟨(by unfold CMul; omega), ?_⟩
  | refine ⟨(by unfold CPow; omega), ?_⟩
  | refine ⟨(by (try dsimp only); omega), ?_⟩
  | refine ⟨(by unfold CDiv; omega), ?_⟩
  | fail "rd1")
local macro_rules | `(tactic| walk_at "rd") => `(tactic| repeat' (walk_at "rd1"))
open Own
section
variable {P : Program} {w : World} {K : PySem.W.Frag} {mg : Str → Option Value} {base : Heap} {A : Ad}
theorem KeyL.up {H H' : Hp} {y : V} {k : MK} (h : KeyL K H y k) (s : Same H H') : KeyL K H' y k := by
  cases k with
  | inl z => exact h
  | inr ks => obtain ⟨a, e, q⟩ := h; exact ⟨a, e, stUp q s⟩
end
end K5
set_option Elab.async false
set_option linter.all false
set_option maxRecDepth 100000
set_option maxHeartbeats 4000000
namespace K5
open PySem L2
local macro_rules | `(tactic| walk_at "rd1") => `(tactic| first
  | refine ⟨_, _, rfl, rfl, ?_⟩
  | refine ⟨_, _, _, _, rfl, rfl, SqL.of (by assumption), rfl, ?_⟩
  | refine ⟨_, _, _, _, rfl, rfl, (by assumption), rfl, ?_⟩
  | refine .inl ⟨_, rfl, ?_⟩
  | refine ⟨_, rfl, ?_⟩
  | refine ⟨(by unfold CMul; omega), ?_⟩
  | refine ⟨(by unfold CPow; omega), ?_⟩
  | refine ⟨(by (try dsimp only); omega), ?_⟩
  | refine ⟨(by unfold CDiv; omega), ?_⟩
  | fail "rd1")
local macro_rules | `(tactic| walk_at "rd") => `(tactic| repeat' (walk_at "rd1"))
section
variable {P : Program} {w : World} {K : PySem.W.Frag} {mg : Str → Option Value} {base : Heap} {A : Ad}
theorem paired_at {α β : Type} {R : α → β → Prop} : ∀ {xs : List α} {ys : List β}, Paired R xs ys → ∀ {i : Nat} {x : α}, xs[i]? = some x → ∃ y, ys[i]? = some y ∧ R x y
  | _, _, .nil, i, x, h => by cases h
  | _, _, .cons a b, 0, x, h => by cases h; exact ⟨_, rfl, a⟩
  | _, _, .cons a b, i + 1, x, h => paired_at b (i := i) h
end
end K5
set_option Elab.async false
set_option linter.all false
set_option maxRecDepth 100000
set_option maxHeartbeats 4000000
namespace K5
open PySem L2
local macro_rules | `(tactic| walk_at "rd1") => `(tactic| first
  | refine ⟨_, _, rfl, rfl, ?_⟩
  | refine ⟨_, _, _, _, rfl, rfl, SqL.of (by assumption), rfl, ?_⟩
  | refine ⟨_, _, _, _, rfl, rfl, (by assumption), rfl, ?_⟩
  | refine .inl ⟨_, rfl, ?_⟩
  | refine ⟨_, rfl, ?_⟩
  | refine ⟨(by unfold CMul; omega), ?_⟩
  | refine ⟨(by unfold CPow; omega), ?_⟩
  | refine ⟨(by (try dsimp only); omega), ?_⟩
  | refine ⟨(by unfold CDiv; omega), ?_⟩
  | fail "rd1")
local macro_rules | `(tactic| walk_at "rd") => `(tactic| repeat' (walk_at "rd1"))
open Own
section
variable {P : Program} {w : World} {K : PySem.W.Frag} {mg : Str → Option Value} {base : Heap} {A : Ad}
theorem er_sta {H : Hp} {st c a : Addr} {b : Int} {o : HO} (S : Sta H st c b) (h : H a = some o) (n : ∀ xs, o ≠ .lst xs) : er H st a = some o := er_of (fun e => by
  obtain ⟨cs, i, l, m, k, h1, _⟩ := S.ex
  rw [e, h1] at h
  exact n _ (Option.some.inj h).symm) h
theorem BkAt.sta {C p st c : Addr} {H : Hp} {b : Int} {ys : List Str} {hk : Str → Str} {wt : Str → Int} (S : Sta H st c b) (B : BkAt C H p ys hk wt) : BkAt C (er H st) p ys hk wt := by
  obtain ⟨dx, qh, qw, h1, h2, h3⟩ := B.ex
  exact ⟨dx, qh, qw, er_sta S h1 (fun _ z => nomatch z), er_sta S h2 (fun _ z => nomatch z), er_sta S h3 (fun _ z => nomatch z)⟩
end
end K5
set_option Elab.async false
set_option linter.all false
set_option maxRecDepth 100000
set_option maxHeartbeats 4000000
namespace K5
open PySem L2
local macro_rules | `(tactic| walk_at "rd1") => `(tactic| first
  | refine ⟨_, _, rfl, rfl, ?_⟩
  | refine ⟨_, _, _, _, rfl, rfl, SqL.of (by assumption), rfl, ?_⟩
  | refine ⟨_, _, _, _, rfl, rfl, (by assumption), rfl, ?_⟩
  | refine .inl ⟨_, rfl, ?_⟩
  | refine ⟨_, rfl, ?_⟩
  | refine ⟨(by unfold CMul; omega), ?_⟩
  | refine ⟨(by unfold CPow; omega), ?_⟩
  | refine ⟨(by (try dsimp only); omega), ?_⟩
  | refine ⟨(by unfold CDiv; omega), ?_⟩
  | fail "rd1")
local macro_rules | `(tactic| walk_at "rd") => `(tactic| repeat' (walk_at "rd1"))
section
variable {P : Program} {w : World} {K : PySem.W.Frag} {mg : Str → Option Value} {base : Heap} {A : Ad}
abbrev Rw := Str × Str × Int
/-- from cause to cause -/
def nxt (rows : List Rw) (C : Str → Nat) (v : Str) : Str := (rows.getD (C v) ("", "", 0)).2.1
end
end K5
set_option Elab.async false
set_option linter.all false
set_option maxRecDepth 100000
set_option maxHeartbeats 4000000
namespace K5
open PySem L2
local macro_rules | `(tactic| walk_at "rd1") => `(tactic| first
  | refine ⟨_, _, rfl, rfl, ?_⟩
  | refine ⟨_, _, _, _, rfl, rfl, SqL.of (by assumption), rfl, ?_⟩
  | refine ⟨_, _, _, _, rfl, rfl, (by assumption), rfl, ?_⟩
  | refine .inl ⟨_, rfl, ?_⟩
  | refine ⟨_, rfl, ?_⟩
  | refine ⟨(by unfold CMul; omega), ?_⟩
  | refine ⟨(by unfold CPow; omega), ?_⟩
  | refine ⟨(by (try dsimp only); omega), ?_⟩
  | refine ⟨(by unfold CDiv; omega), ?_⟩
  | fail "rd1")
local macro_rules | `(tactic| walk_at "rd") => `(tactic| repeat' (walk_at "rd1"))
open Own
section
variable {P : Program} {w : World} {K : PySem.W.Frag} {mg : Str → Option Value} {base : Heap} {A : Ad}
theorem noTup_frz {o : Obj} {kvs : List (Key × V)} : NoTup (.frz o (.dK kvs)) := ⟨fun _ z => (nomatch z), fun _ _ z => (nomatch z)⟩
theorem Pr2.fill {H : Hp} {ys : List Str} {f g : Str → V} {kvs : List (Key × V)} {i : Nat} {a R : Addr} (h : Pr2 K H (ys.take i) f g kvs) (nd : ys.Nodup) (hi : i < ys.length) (na : H a = none) (hR : H R = some (.dK kvs)) :
    Pr2 K (upd (upd H a (.tup [f ys[i], g ys[i]])) R (.dK (putK kvs (.inr ys[i]) (.ref a)))) (ys.take (i + 1)) f g (putK kvs (.inr ys[i]) (.ref a)) := by
  rw [put_new _ _ _ (by
    rw [h.keys]
    intro m
    obtain ⟨z, hz, ez⟩ := List.mem_map.mp m
    exact not_in_take nd hi (by rw [← Sum.inr.inj ez]; exact hz)), List.take_succ, List.getElem?_eq_getElem hi]
  have hR5 : upd H a (.tup [f ys[i], g ys[i]]) R = some (.dK kvs) := Same.new na _ _ hR
  exact Pr2.snoc ((h.up (Same.new na)).set hR5 (noTup_dK _)) (tupSet hR5 (noTup_dK _) (SqT.of upd_same))
end
end K5
set_option Elab.async false
set_option linter.all false
set_option maxRecDepth 100000
set_option maxHeartbeats 4000000
namespace K5
open PySem L2
local macro_rules | `(tactic| walk_at "rd1") => `(tactic| first
  | refine ⟨_, _, rfl, rfl, ?_⟩
  | refine ⟨_, _, _, _, rfl, rfl, SqL.of (by assumption), rfl, ?_⟩
  | refine ⟨_, _, _, _, rfl, rfl, (by assumption), rfl, ?_⟩
  | refine .inl ⟨_, rfl, ?_⟩
  | refine ⟨_, rfl, ?_⟩
  | refine ⟨(by unfold CMul; omega), ?_⟩
  | refine ⟨(by unfold CPow; omega), ?_⟩
  | refine ⟨(by (try dsimp only); omega), ?_⟩
  | refine ⟨(by unfold CDiv; omega), ?_⟩
  | fail "rd1")
local macro_rules | `(tactic| walk_at "rd") => `(tactic| repeat' (walk_at "rd1"))
open Own
section
variable {P : Program} {w : World} {K : PySem.W.Frag} {mg : Str → Option Value} {base : Heap} {A : Ad}
def ov : Option Int → V
  | some x => .int x
  | none => .non
end
end K5
set_option Elab.async false
set_option linter.all false
set_option maxRecDepth 100000
set_option maxHeartbeats 4000000
namespace K5
open PySem L2
local macro_rules | `(tactic| walk_at "rd1") => `(tactic| first
  | refine ⟨_, _, rfl, rfl, ?_⟩
  | refine ⟨_, _, _, _, rfl, rfl, SqL.of (by assumption), rfl, ?_⟩
  | refine ⟨_, _, _, _, rfl, rfl, (by assumption), rfl, ?_⟩
  | refine .inl ⟨_, rfl, ?_⟩
  | refine ⟨_, rfl, ?_⟩
  | refine ⟨(by unfold CMul; omega), ?_⟩
  | refine ⟨(by unfold CPow; omega), ?_⟩
  | refine ⟨(by (try dsimp only); omega), ?_⟩
  | refine ⟨(by unfold CDiv; omega), ?_⟩
  | fail "rd1")
local macro_rules | `(tactic| walk_at "rd") => `(tactic| repeat' (walk_at "rd1"))
open Own
section
variable {P : Program} {w : World} {K : PySem.W.Frag} {mg : Str → Option Value} {base : Heap} {A : Ad}
structure BkR (C : Addr) (H : Hp) (p : Addr) (ys : List Str) (hk : Str → Str) (wt : Str → Int) : Prop where
  ex : ∃ dx qh qw, H p = some (.ins C dx [("hooks", .ref qh), ("waits", .ref qw)]) ∧ Rd H qh (.dK (kvF ys fun n => .str (hk n))) ∧ H qw = some (.dK (kvW ys wt))
theorem BkAt.locked {C : Addr} {H : Hp} {p qh : Addr} {ys : List Str} {hk hk0 : Str → Str} {wt : Str → Int} {od : Obj} (B : BkAt C H p ys hk wt) (hq : H qh = some (.dK (kvF ys fun n => .str (hk0 n)))) (nd : ys.Nodup) {n : Str} (m : n ∈ ys) : BkR C (upd H qh (.frz od (.dK (kvF ys fun n => .str (hk0 n))))) p ys hk wt := by
  obtain ⟨dx, qa, qw, h1, h2, h3⟩ := B.ex
  refine ⟨dx, qa, qw, by rw [upd_ne (fun e => by rw [e, hq] at h1; cases h1)]; exact h1, ?_, ?_⟩
  · by_cases e : qa = qh
    · subst e
      rw [hq] at h2
      rw [HO.dK.inj (Option.some.inj h2)]
      exact .inr ⟨od, upd_same⟩
    · exact .inl (by rw [upd_ne e]; exact h2)
  · rw [upd_ne fun e => ?_]
    · exact h3
    · rw [e, hq] at h3
      have e1 := HO.dK.inj (Option.some.inj h3)
      have v1 := kvF_val (f := fun n => V.str (hk0 n)) nd m
      rw [e1] at v1
      have v2 := kvF_val (f := fun n => V.int (wt n)) nd m
      rw [v2] at v1
      cases v1
theorem BkR.up {C : Addr} {H H' : Hp} {p : Addr} {ys : List Str} {hk : Str → Str} {wt : Str → Int} (B : BkR C H p ys hk wt) (s : Same H H') : BkR C H' p ys hk wt := by
  obtain ⟨dx, qa, qw, h1, h2, h3⟩ := B.ex
  exact ⟨dx, qa, qw, s _ _ h1, rdUp h2 s, s _ _ h3⟩
end
end K5
set_option Elab.async false
set_option linter.all false
set_option maxRecDepth 100000
set_option maxHeartbeats 4000000
namespace K5
open PySem L2
local macro_rules | `(tactic| walk_at "rd1") => `(tactic| first
  | refine ⟨_, _, rfl, rfl, ?_⟩
  | refine ⟨_, _, _, _, rfl, rfl, SqL.of (by assumption), rfl, ?_⟩
  | refine ⟨_, _, _, _, rfl, rfl, (by assumption), rfl, ?_⟩
  | refine .inl ⟨_, rfl, ?_⟩
  | refine ⟨_, rfl, ?_⟩
  | refine ⟨(by unfold CMul; omega), ?_⟩
  | refine ⟨(by unfold CPow; omega), ?_⟩
  | refine ⟨(by (try dsimp only); omega), ?_⟩
  | refine ⟨(by unfold CDiv; omega), ?_⟩
  | fail "rd1")
local macro_rules | `(tactic| walk_at "rd") => `(tactic| repeat' (walk_at "rd1"))
open Own
section
variable {P : Program} {w : World} {K : PySem.W.Frag} {mg : Str → Option Value} {base : Heap} {A : Ad}
theorem waits_stay {H : Hp} {p qh qw C dx : Addr} {ys : List Str} {hk : Str → Str} {wt : Str → Int} (nd : ys.Nodup) (_ : H p = some (.ins C dx [("hooks", .ref qh), ("waits", .ref qw)])) (hh : H qh = some (.dK (kvF ys fun n => .str (hk n)))) (hw : H qw = some (.dK (kvF ys fun n => .int (wt n)))) :
    ∀ o n, n ∈ ys → upd H qh o qw = some (.dK (kvF ys fun n => .int (wt n))) := fun o n m => by
  rw [upd_ne fun e => ?_]
  · exact hw
  · rw [e, hh] at hw
    have e1 := HO.dK.inj (Option.some.inj hw)
    have v1 := kvF_val (f := fun n => V.str (hk n)) nd m
    rw [e1, kvF_val (f := fun n => V.int (wt n)) nd m] at v1
    cases v1
def spBRows (K : PySem.W.Frag) (C : Addr) : Sp := fun vs H Q _ => ∃ (p : Addr) (ys : List Str) (hk : Str → Str) (wt : Str → Int), vs = [.ref p] ∧ BkAt C H p ys hk wt ∧ ys.Nodup ∧ ys.length < 64 ∧
  ∀ r kvs H', Same H H' → H r = none → H' r = some (.dK kvs) → Pr2 K H' ys (fun n => .str (hk n)) (fun n => .int (wt n)) kvs → Q (.ref r) H'
theorem ok_brows (T : Txt K mg A) : FnOk P w K mg base CX0 1 A.a_Book_rows A.d_Book_rows P_Book_rows (spBRows K A.a_Book) := by
  refine T.f_Book_rows.ok sc_Book_rows (fun vs H Q E h => ?_) (fun cdv A' outer s H vs Q E hr h => ?_)
  · obtain ⟨p, ys, hk, wt, rfl, _⟩ := h
    rfl
  · obtain ⟨p, ys, hk, wt, rfl, B, nd, hl, k⟩ := h
    obtain ⟨dx, qh, qw, hp, hh, hw⟩ := B.ex
    refine ⟨_, (pss_one (ps_ret (pe_lock (pe_dc (own := [("name", 1)]) (g := gName 1) (by rfl) sc_Book_rows.nd (pi_keys (pe_fld (pv 0) rfl)) (blkOk_by (N := N_Book_rows) (sc := defScope s_Book_rows) (by decide +kernel)) (fun _ _ _ _ _ => pg_name (i := 1) sc_Book_rows.nd rfl (Or.inl rfl)) (fun _ _ _ _ _ => pts_nil) (fun _ _ _ _ _ => (pv 1)) (fun _ _ _ _ _ => (pe_tup (pa_cons (pe_dget (hu_of hr) (Own.fldOf (K := K) rfl (pv 0) rfl) (pv 1) (fun _ _ => rfl)) (pa_cons (pe_dget (hu_of hr) (Own.fldOf (K := K) rfl (pv 0) rfl) (pv 1) (fun _ _ => rfl)) pa_nil)))))))), ?_⟩
    have nd' := nd
    have hwF := waits_stay nd hp hh hw
    refine ⟨qh, _, hh, trivial, fun od => ?_⟩
    have nph : p ≠ qh := fun e => by rw [e, hh] at hp; cases hp
    have hpF : upd H qh (.frz od (.dK (kvF ys fun n => .str (hk n)))) p = some (.ins A.a_Book dx [("hooks", .ref qh), ("waits", .ref qw)]) := by rw [upd_ne nph]; exact hp
    have hhF : upd H qh (.frz od (.dK (kvF ys fun n => .str (hk n)))) qh = some (.frz od (.dK (kvF ys fun n => .str (hk n)))) := upd_same
    have hwF : ∀ n ∈ ys, upd H qh (.frz od (.dK (kvF ys fun n => .str (hk n)))) qw = some (.dK (kvF ys fun n => .int (wt n))) := fun n m => hwF _ n m
    have uF : ∀ H2, Same (upd H qh (.frz od (.dK (kvF ys fun n => .str (hk n))))) H2 → Same H (upd H2 qh (.dK (kvF ys fun n => .str (hk n)))) := fun H2 s => unfrz hh s
    have eF : ∀ b, b ≠ qh → upd H qh (.frz od (.dK (kvF ys fun n => .str (hk n)))) b = none → H b = none := fun b n e => by rw [← e, upd_ne n]
    generalize upd H qh (.frz od (.dK (kvF ys fun n => .str (hk n)))) = F at hpF hhF hwF uF eF ⊢
    refine ⟨_, rfl, p, A.a_Book, dx, _, _, rfl, hpF, T.cl_B, T.nBH, rfl, qh, od, rfl, .inl ⟨_, hhF, fun R hR => fillD walk_keys (fun i H' => Same F H' ∧ ∃ kvs, H' R = some (.dK kvs) ∧ Pr2 K H' (ys.take i) (fun n => .str (hk n)) (fun n => .int (wt n)) kvs) ⟨Same.new hR, [], upd_same, Pr2.nil⟩ (fun i H' _ z => z.1 _ _ hhF) ?_ (fun H4 z => ?_)⟩⟩
    · rintro i x H' H'' hi ⟨s4, kvs, hR4, hP4⟩ ⟨rfl, key, v, hkv, rfl⟩
      obtain ⟨hi1, rfl, rfl⟩ := kvF_at hkv
      have hm : ys[i] ∈ ys := List.getElem_mem hi1
      refine ⟨rfl, _, rfl, _, rfl, p, A.a_Book, dx, _, _, rfl, s4 _ _ hpF, T.cl_B, T.nBH, rfl, _, rfl, qh, _, rfl, .inl ⟨_, .inr ys[i], .inr ⟨od, s4 _ _ hhF⟩, rfl, (kvF_val (f := fun n => V.str (hk n)) nd hm).symm⟩, ?_⟩
      refine ⟨_, rfl, p, A.a_Book, dx, _, _, rfl, s4 _ _ hpF, T.cl_B, T.nBW, rfl, _, rfl, qw, _, rfl, .inl ⟨_, .inr ys[i], .inl (s4 _ _ (hwF _ hm)), rfl, (kvF_val (f := fun n => V.int (wt n)) nd hm).symm⟩, ?_⟩
      refine ⟨by show 2 ≤ sizeLine; decide, fun a na => ⟨_, .inr ys[i], rfl, Same.new na _ _ hR4, ?_, ?_, _, upd_same, ?_⟩⟩
      · rw [hP4.len, List.length_take]; exact Nat.lt_of_le_of_lt (show min i _ ≤ 64 by omega) (by decide)
      · exact fun c u e => by rw [upd_ne (ne_of_none e hR)]; exact Same.new na _ _ (s4 _ _ e)
      · exact hP4.fill nd hi1 na hR4
    obtain ⟨s4, kvs, hR4, hP4⟩ := z
    rw [kvF_len, List.take_length] at hP4
    have nRq : R ≠ qh := fun e => by rw [e, hhF] at hR; cases hR
    refine ⟨s4 _ _ hhF, ?_⟩
    exact k R kvs _ (uF _ s4) (eF _ nRq hR) (by rw [upd_ne nRq]; exact hR4) (hP4.set (s4 _ _ hhF) noTup_frz)
end
end K5
set_option Elab.async false
set_option linter.all false
set_option maxRecDepth 100000
set_option maxHeartbeats 4000000
namespace K5
open PySem L2
local macro_rules | `(tactic| walk_at "rd1") => `(tactic| first
  | refine ⟨_, _, rfl, rfl, ?_⟩
  | refine ⟨_, _, _, _, rfl, rfl, SqL.of (by assumption), rfl, ?_⟩
  | refine ⟨_, _, _, _, rfl, rfl, (by assumption), rfl, ?_⟩
  | refine .inl ⟨_, rfl, ?_⟩
  | refine ⟨_, rfl, ?_⟩
  | refine ⟨(by unfold CMul; omega), ?_⟩
  | refine ⟨(by unfold CPow; omega), ?_⟩
  | refine ⟨(by (try dsimp only); omega), ?_⟩
  | refine ⟨(by unfold CDiv; omega), ?_⟩
  | fail "rd1")
local macro_rules | `(tactic| walk_at "rd") => `(tactic| repeat' (walk_at "rd1"))
open Own
section
variable {P : Program} {w : World} {K : PySem.W.Frag} {mg : Str → Option Value} {base : Heap} {A : Ad}
theorem ROk_nd {rk : Str → Nat} {ys : List Str} {hk : Str → Str} (O : ROk rk (rowsF ys hk)) : ys.Nodup := by
  have := O.nd
  rwa [ksR_F] at this
end
end K5
set_option Elab.async false
set_option linter.all false
set_option maxRecDepth 100000
set_option maxHeartbeats 4000000
namespace K5
open PySem L2
local macro_rules | `(tactic| walk_at "rd1") => `(tactic| first
  | refine ⟨_, _, rfl, rfl, ?_⟩
  | refine ⟨_, _, _, _, rfl, rfl, SqL.of (by assumption), rfl, ?_⟩
  | refine ⟨_, _, _, _, rfl, rfl, (by assumption), rfl, ?_⟩
  | refine .inl ⟨_, rfl, ?_⟩
  | refine ⟨_, rfl, ?_⟩
  | refine ⟨(by unfold CMul; omega), ?_⟩
  | refine ⟨(by unfold CPow; omega), ?_⟩
  | refine ⟨(by (try dsimp only); omega), ?_⟩
  | refine ⟨(by unfold CDiv; omega), ?_⟩
  | fail "rd1")
local macro_rules | `(tactic| walk_at "rd") => `(tactic| repeat' (walk_at "rd1"))
open Own
section
variable {P : Program} {w : World} {K : PySem.W.Frag} {mg : Str → Option Value} {base : Heap} {A : Ad}
def kvI (l : List (Str × Int)) : List (Key × V) := l.map fun x => (.inr x.1, .int x.2)
def look : List (Str × Int) → Str → Option Int
  | [], _ => none
  | (a, i) :: r, n => if a = n then some i else look r n
theorem val_kvI {n : Str} : ∀ l : List (Str × Int), valV (kvI l) (.inr n) = (look l n).map V.int
  | [] => rfl
  | (a, i) :: r => by
    by_cases e : a = n
    · subst e
      have : look ((a, i) :: r) a = some i := if_pos rfl
      rw [this]
      unfold kvI valV
      simp
    · have : look ((a, i) :: r) n = look r n := if_neg e
      rw [this, ← val_kvI r]
      unfold kvI valV
      simp [e]
theorem has_kvI {n : Str} {l : List (Str × Int)} : (valV (kvI l) (.inr n)).isSome = (look l n).isSome := by rw [val_kvI, Option.isSome_map]
/-- how far an evening is -/
def CoF (C : Addr) (H : Hp) (p : Addr) (now : Int) (m b : Addr) (ss ds : List (Str × Int)) : Prop := ∃ dx qs qd, H p = some (.ins C dx [("passed", .int now), ("dinner", .ref m), ("plan", .ref b), ("starts", .ref qs), ("dones", .ref qd)]) ∧ H qs = some (.dK (kvI ss)) ∧ H qd = some (.dK (kvI ds))
theorem CoF.up {C : Addr} {H H' : Hp} {p m b : Addr} {now : Int} {ss ds : List (Str × Int)} (h : CoF C H p now m b ss ds) (s : Same H H') : CoF C H' p now m b ss ds := by
  obtain ⟨dx, qs, qd, h1, h2, h3⟩ := h
  exact ⟨dx, qs, qd, s _ _ h1, s _ _ h2, s _ _ h3⟩
def spCoInit (C : Addr) : Sp := fun vs H Q _ => ∃ (p dx m b qs qd : Addr) (now : Int) (ss ds : List (Str × Int)), vs = [.ref p, .int now, .ref m, .ref b, .ref qs, .ref qd] ∧ H p = some (.ins C dx []) ∧ H qs = some (.dK (kvI ss)) ∧ H qd = some (.dK (kvI ds)) ∧
  ∀ H', CoF C H' p now m b ss ds → Same (er H p) H' → Q .non H'
theorem ok_coinit (T : Txt K mg A) : FnOk P w K mg base CX0 1 A.a_Course___init__ A.d_Course___init__ P_Course___init__ (spCoInit A.a_Course) := by
  refine T.f_Course___init__.ok sc_Course___init__ (fun vs H Q E h => ?_) (fun cdv A' outer s H vs Q E hr h => ?_)
  · obtain ⟨p, dx, m, b, qs, qd, now, ss, ds, rfl, _⟩ := h
    rfl
  · obtain ⟨p, dx, m, b, qs, qd, now, ss, ds, rfl, hp, hs, hd, k⟩ := h
    refine ⟨_, (pss_cons (ps_fld (pv 0) (pv 1) rfl)
 (pss_cons (ps_fld (pv 0) (pv 2) rfl)
 (pss_cons (ps_fld (pv 0) (pv 3) rfl)
 (pss_cons (ps_fld (pv 0) (pv 4) rfl)
 (pss_one (ps_fld (pv 0) (pv 5) rfl)))))), ?_⟩
    refine ⟨_, rfl, _, rfl, p, A.a_Course, dx, _, rfl, hp, T.cl_Co, T.nCoP, by decide, ?_⟩
    refine ⟨_, rfl, _, rfl, p, A.a_Course, dx, _, rfl, upd_same, T.cl_Co, T.nCoD, Nat.lt_of_le_of_lt (putF_len _ _ _) (by decide), ?_⟩
    refine ⟨_, rfl, _, rfl, p, A.a_Course, dx, _, rfl, upd_same, T.cl_Co, T.nCoB, by show 2 < 1000; decide, ?_⟩
    refine ⟨_, rfl, _, rfl, p, A.a_Course, dx, _, rfl, upd_same, T.cl_Co, T.nCoS, by show 3 < 1000; decide, ?_⟩
    refine ⟨_, rfl, _, rfl, p, A.a_Course, dx, _, rfl, upd_same, T.cl_Co, T.nCoE, by show 4 < 1000; decide, ?_⟩
    have nsp : qs ≠ p := fun e => by rw [e, hp] at hs; cases hs
    have ndp : qd ≠ p := fun e => by rw [e, hp] at hd; cases hd
    refine k _ ⟨dx, qs, qd, upd_same, ?_, ?_⟩ (fun c u e => ?_)
    · rw [upd_ne nsp, upd_ne nsp, upd_ne nsp, upd_ne nsp, upd_ne nsp]; exact hs
    · rw [upd_ne ndp, upd_ne ndp, upd_ne ndp, upd_ne ndp, upd_ne ndp]; exact hd
    · have z := er_some e
      rw [upd_ne z.1, upd_ne z.1, upd_ne z.1, upd_ne z.1, upd_ne z.1]; exact z.2
theorem mk_course {H : Hp} {C m b qs qd : Addr} {now : Int} {ss ds : List (Str × Int)} {Q : Addr → Hp → Prop} {E : XK} (hs : H qs = some (.dK (kvI ss))) (hd : H qd = some (.dK (kvI ds)))
    (k : ∀ p H', H p = none → Same H H' → CoF C H' p now m b ss ds → Q p H') :
    ∀ p dx, H p = none → H dx = none → dx ≠ p → spCoInit C [.ref p, .int now, .ref m, .ref b, .ref qs, .ref qd] (upd (upd H dx (.own p)) p (.ins C dx [])) (fun v H' => v = .non ∧ Q p H') E := by
  intro p dx np ndx ndp
  have sM : Same H (upd (upd H dx (.own p)) p (.ins C dx [])) := fun b u e => by rw [upd_ne (ne_of_none e np), upd_ne (ne_of_none e ndx)]; exact e
  have sE : Same H (er (upd (upd H dx (.own p)) p (.ins C dx [])) p) := fun b u e => er_of (ne_of_none e np) (sM _ _ e)
  exact ⟨p, dx, m, b, qs, qd, now, ss, ds, rfl, upd_same, sM _ _ hs, sM _ _ hd, fun H' c sS => ⟨rfl, k p H' np (fun c u e => sS _ _ (sE _ _ e)) c⟩⟩
/-- when a dish is to start -/
def dueF (hk : Str → Str) (wt : Str → Int) (ds : List (Str × Int)) (n : Str) : Option Int := if hk n = "clock" then some (wt n) else (look ds (hk n)).map (· + wt n)
def spBItemR (C : Addr) : Sp := fun vs H Q _ => ∃ (p : Addr) (ys : List Str) (hk : Str → Str) (wt : Str → Int) (n : Str), vs = [.ref p, .str n] ∧ BkR C H p ys hk wt ∧ ys.Nodup ∧ n ∈ ys ∧ ∀ t, H t = none → Q (.ref t) (upd H t (.tup [.str (hk n), .int (wt n)]))
theorem ok_bitemR (T : Txt K mg A) : FnOk P w K mg base CX0 3 A.a_Book___getitem__ A.d_Book___getitem__ P_Book___getitem__ (spBItemR A.a_Book) := by
  have G_check_dish : FnOk P w K mg base CX0 2 A.a_check_dish A.d_check_dish P_check_dish (spChkDishP K) := ok_chkdishP T
  refine T.f_Book___getitem__.ok sc_Book___getitem__ (fun vs H Q E h => ?_) (fun cdv A' outer s H vs Q E hr h => ?_)
  · obtain ⟨p, ys, hk, wt, n, rfl, _⟩ := h
    rfl
  · obtain ⟨p, ys, hk, wt, n, rfl, B, nd, m, k⟩ := h
    obtain ⟨dx, qh, qw, hp, hh, hw⟩ := B.ex
    refine ⟨_, (pss_cons (ps_expr (pe_call G_check_dish (hr.mono (by omega)) (by rfl) T.g_check_dish T.f_check_dish.kp T.b_check_dish .nil pass0 (pa_cons (pv 1) (pa_cons (pe_fld (pv 0) rfl) pa_nil))))
 (pss_one (ps_ret (pe_tup (pa_cons (pe_dget (hu_of hr) (pe_fld (pv 0) rfl) (pv 1) (fun _ _ => rfl)) (pa_cons (pe_dget (hu_of hr) (pe_fld (pv 0) rfl) (pv 1) (fun _ _ => rfl)) pa_nil)))))), ?_⟩
    refine ⟨_, rfl, _, rfl, p, A.a_Book, dx, _, _, rfl, hp, T.cl_B, T.nBH, rfl, n, qh, _, rfl, hh, by rw [kvF_val nd m]; rfl, ?_⟩
    refine ⟨_, rfl, p, A.a_Book, dx, _, _, rfl, hp, T.cl_B, T.nBH, rfl, _, rfl, qh, _, rfl, .inl ⟨_, .inr n, hh, rfl, (kvF_val nd m).symm⟩, ?_⟩
    exact ⟨_, rfl, p, A.a_Book, dx, _, _, rfl, hp, T.cl_B, T.nBW, rfl, _, rfl, qw, _, rfl, .inl ⟨_, .inr n, .inl hw, rfl, (kvF_val nd m).symm⟩, by show 2 ≤ sizeLine; decide, fun t nt => k t nt⟩
theorem BkAt.rd {C : Addr} {H : Hp} {p : Addr} {ys : List Str} {hk : Str → Str} {wt : Str → Int} (B : BkAt C H p ys hk wt) : BkR C H p ys hk wt := by
  obtain ⟨dx, qa, qw, h1, h2, h3⟩ := B.ex
  exact ⟨dx, qa, qw, h1, .inl h2, h3⟩
theorem CoF.locked {C : Addr} {H : Hp} {p m b qh : Addr} {now : Int} {ss ds : List (Str × Int)} {ys : List Str} {hk : Str → Str} {od : Obj} (h : CoF C H p now m b ss ds) (hq : H qh = some (.dK (kvF ys fun n => .str (hk n)))) (nd : ys.Nodup) {n : Str} (mn : n ∈ ys) : CoF C (upd H qh (.frz od (.dK (kvF ys fun n => .str (hk n))))) p now m b ss ds := by
  obtain ⟨dx, qs, qd, h1, h2, h3⟩ := h
  have no : ∀ (q : Addr) (l : List (Str × Int)), H q = some (.dK (kvI l)) → q ≠ qh := fun q l e z => by
    rw [z, hq] at e
    have v := kvF_val (f := fun n => V.str (hk n)) nd mn
    rw [HO.dK.inj (Option.some.inj e), val_kvI] at v
    cases el : look l n with
    | none => rw [el] at v; cases v
    | some i => rw [el] at v; cases v
  exact ⟨dx, qs, qd, by rw [upd_ne (fun e => by rw [e, hq] at h1; cases h1)]; exact h1, by rw [upd_ne (no _ _ h2)]; exact h2, by rw [upd_ne (no _ _ h3)]; exact h3⟩
def spDue (CC CB : Addr) : Sp := fun vs H Q _ => ∃ (c m b : Addr) (now : Int) (ss ds : List (Str × Int)) (ys : List Str) (hk : Str → Str) (wt : Str → Int) (n : Str), vs = [.ref c, .str n] ∧ CoF CC H c now m b ss ds ∧ BkR CB H b ys hk wt ∧ ys.Nodup ∧ n ∈ ys ∧ ∀ H', Same H H' → Q (ov (dueF hk wt ds n)) H'
theorem ok_due (T : Txt K mg A) : FnOk P w K mg base CX0 5 A.a_due A.d_due P_due (spDue A.a_Course A.a_Book) := by
  have G_Book___getitem__ : FnOk P w K mg base CX0 3 A.a_Book___getitem__ A.d_Book___getitem__ P_Book___getitem__ (spBItemR A.a_Book) := ok_bitemR T
  refine T.f_due.ok sc_due (fun vs H Q E h => ?_) (fun cdv A' outer s H vs Q E hr h => ?_)
  · obtain ⟨c, m, b, now, ss, ds, ys, hk, wt, n, rfl, _⟩ := h
    rfl
  · obtain ⟨c, m, b, now, ss, ds, ys, hk, wt, n, rfl, hC, B, nd, mn, k⟩ := h
    refine ⟨_, (pss_cons (ps_asg (Own.pe_itm (pe_fld (pv 0) rfl) G_Book___getitem__ T.m_itm.1 T.m_itm.2.1 T.m_itm.2.2 T.b_Book___getitem__ pass0 (hr.mono (by omega)) (pv 1) (fun _ _ => rfl)) (pg_tup (by rfl) (pgs_cons (pg_name (i := 2) sc_due.nd rfl (Or.inl rfl)) (pgs_cons (pg_name (i := 3) sc_due.nd rfl (Or.inl rfl)) pgs_nil))))
 (pss_cons (ps_if (pt_cmpR op_eq (pv 2) (pe_glob (v := .str "clock") (by rfl) T.g_CLOCK.choose_spec ⟨_, rfl⟩) (nomark _))
 (pss_one (ps_ret (pv 3)))
 pss_nil)
 (pss_one (ps_ret (pe_ifExp (pt_cmp (pc_din (hu_of hr) (pv 2) (pe_fld (pv 0) rfl)) rfl) (pe_op op_add (pe_dget (hu_of hr) (pe_fld (pv 0) rfl) (pv 2) (fun _ _ => rfl)) (pv 3)) pe_non))))), ?_⟩
    obtain ⟨dx, qs, qd, hc, hs, hd⟩ := hC
    obtain ⟨dxb, qh, qw, hb, hh, hw⟩ := id B.ex
    refine ⟨_, rfl, c, A.a_Course, dx, _, _, rfl, hc, T.cl_Co, T.nCoB, rfl, _, rfl, b, dxb, _, rfl, hb, b, ys, hk, wt, n, rfl, B, nd, mn, fun t nt => ?_⟩
    refine ⟨t, _, rfl, SqT.of upd_same, rfl, _, _, rfl, _, _, rfl, rfl, ?_⟩
    have s1 := Same.new nt (o := .tup [.str (hk n), .int (wt n)])
    generalize upd H t (.tup [.str (hk n), .int (wt n)]) = H1 at s1 ⊢
    dsimp only [List.set]
    refine ⟨_, rfl, rfl, _, rfl, ite2 (fun c1 => ?_) (fun c1 => ?_)⟩
    · have e : dueF hk wt ds n = some (wt n) := if_pos (V.str.inj (of_decide_eq_true c1))
      have := k H1 s1
      rw [e] at this
      exact ⟨_, rfl, this⟩
    · have e : dueF hk wt ds n = (look ds (hk n)).map (· + wt n) := if_neg fun z => of_decide_eq_false (eq_false_of_ne_true c1) (by rw [z])
      refine ⟨_, rfl, _, rfl, c, A.a_Course, dx, _, _, rfl, s1 _ _ hc, T.cl_Co, T.nCoE, rfl, qd, _, rfl, .inl ⟨_, .inr (hk n), .inl (s1 _ _ hd), rfl, rfl⟩, ?_⟩
      rw [has_kvI]
      cases el : look ds (hk n) with
      | none =>
        have := k H1 s1
        rw [e, el] at this
        exact ⟨false, rfl, iteF this⟩
      | some i =>
        have := k H1 s1
        rw [e, el] at this
        exact ⟨true, rfl, iteT ⟨_, rfl, c, A.a_Course, dx, _, _, rfl, s1 _ _ hc, T.cl_Co, T.nCoE, rfl, _, rfl, qd, .int i, rfl, .inl ⟨_, .inr (hk n), .inl (s1 _ _ hd), rfl, by rw [val_kvI, el]; rfl⟩, _, rfl, _, _, rfl, rfl, this⟩⟩
/-- who is to start by a minute -/
def duesL (hk : Str → Str) (wt : Str → Int) (ss ds : List (Str × Int)) (l : List Str) : List (Option Int × Str) := (l.filter fun n => (look ss n).isNone).map fun n => (dueF hk wt ds n, n)
def pairsL (mi : Int) (l : List (Option Int × Str)) : List (Str × Int) := l.filterMap fun x => match x.1 with | some i => if i ≤ mi then some (x.2, i) else none | none => none
def freshL (hk : Str → Str) (wt : Str → Int) (ss ds : List (Str × Int)) (mi : Int) (ys : List Str) : List (Str × Int) := pairsL mi (duesL hk wt ss ds ys)
theorem fresh_new {hk : Str → Str} {wt : Str → Int} {ss ds : List (Str × Int)} {mi : Int} {ys : List Str} {x : Str × Int} (h : x ∈ freshL hk wt ss ds mi ys) : look ss x.1 = none := by
  unfold freshL pairsL duesL at h
  obtain ⟨y, hy, e⟩ := List.mem_filterMap.mp h
  obtain ⟨n, hn, rfl⟩ := List.mem_map.mp hy
  have q := (List.mem_filter.mp hn).2
  have e : (match dueF hk wt ds n with | some i => if i ≤ mi then some (n, i) else none | none => none) = some x := e
  cases ed : dueF hk wt ds n with
  | none => rw [ed] at e; cases e
  | some i =>
    rw [ed] at e
    dsimp only at e
    by_cases c : i ≤ mi
    · rw [if_pos c] at e; cases e; exact Option.isNone_iff_eq_none.mp q
    · rw [if_neg c] at e; cases e
theorem look_not {n : Str} : ∀ {l : List (Str × Int)}, look l n = none → n ∉ l.map (·.1)
  | [], _, m => nomatch m
  | (a, i) :: r, h, m => by
    by_cases e : a = n
    · rw [show look ((a, i) :: r) n = some i from if_pos e] at h; cases h
    · rw [show look ((a, i) :: r) n = look r n from if_neg e] at h
      rcases List.mem_cons.mp m with z | z
      · exact e z.symm
      · exact look_not h z
theorem kvI_keys (l : List (Str × Int)) : (kvI l).map (·.1) = (l.map (·.1)).map Sum.inr := by simp [kvI]
theorem kvI_len (l : List (Str × Int)) : (kvI l).length = l.length := by simp [kvI]
theorem kvI_app (l r : List (Str × Int)) : kvI l ++ kvI r = kvI (l ++ r) := by simp [kvI]
/-- a list of pairs (minute, dish) -/
def PrsL (K : PySem.W.Frag) (H : Hp) (l : Addr) (fs : List (Str × Int)) : Prop := ∃ bs : List Addr, H l = some (.lst (bs.map V.ref)) ∧ Paired (fun b (r : Str × Int) => SqT K H b [.int r.2, .str r.1]) bs fs
theorem PrsL.up {H H' : Hp} {l : Addr} {fs : List (Str × Int)} (h : PrsL K H l fs) (s : Same H H') : PrsL K H' l fs := by
  obtain ⟨bs, h1, h2⟩ := h
  exact ⟨bs, s _ _ h1, paired_imp (fun b (r : Str × Int) (z : SqT K H b [.int r.2, .str r.1]) => stUp z s) h2⟩
def spStart (K : PySem.W.Frag) (CC CB : Addr) : Sp := fun vs H Q _ => ∃ (c m b : Addr) (now mi : Int) (ss ds : List (Str × Int)) (ys : List Str) (hk : Str → Str) (wt : Str → Int), vs = [.ref c, .int mi] ∧ CoF CC H c now m b ss ds ∧ BkAt CB H b ys hk wt ∧ ys.Nodup ∧ ys.length < 64 ∧ (ss.map (·.1)).Nodup ∧ ss.length ≤ 900 ∧ ds.length ≤ 900 ∧ (freshL hk wt ss ds mi ys).length ≤ 1 ∧
  ∀ t c' l H', Same H H' → H l = none → H' t = some (.tup [.ref c', .ref l]) → CoF CC H' c' mi m b (ss ++ freshL hk wt ss ds mi ys) ds → PrsL K H' l (freshL hk wt ss ds mi ys) → Q (.ref t) H'
theorem ok_start (T : Txt K mg A) : FnOk P w K mg base CX0 6 A.a_started_until A.d_started_until P_started_until (spStart K A.a_Course A.a_Book) := by
  have G_due : FnOk P w K mg base CX0 5 A.a_due A.d_due P_due (spDue A.a_Course A.a_Book) := ok_due T
  have G_Course___init__ : FnOk P w K mg base CX0 1 A.a_Course___init__ A.d_Course___init__ P_Course___init__ (spCoInit A.a_Course) := ok_coinit T
  refine T.f_started_until.ok sc_started_until (fun vs H Q E h => ?_) (fun cdv A' outer s H vs Q E hr h => ?_)
  · obtain ⟨c, m, b, now, mi, ss, ds, ys, hk, wt, rfl, _⟩ := h
    rfl
  · obtain ⟨c, m, b, now, mi, ss, ds, ys, hk, wt, rfl, hC, B, nd, yl, sN, sl, dl, fl, k⟩ := h
    refine ⟨_, (pss_cons (ps_lock (ps_setLc (i := 2) (own := [("name", 5)]) (g := gName 5)  (by rfl) sc_started_until.nd rfl rfl (sw_true rfl rfl rfl (by decide +kernel)) (Own.pi_own (fun _ => ok_biter T) T.b_Book___iter__ pass0 (hr.mono (by omega)) T.m_iterB.1 T.m_iterB.2 (pe_fld (pv 0) rfl)) (blkOk_by (N := N_started_until) (sc := defScope s_started_until) (by decide +kernel)) (fun _ _ _ _ _ => pg_name (i := 5) sc_started_until.nd rfl (Or.inl rfl)) (fun _ _ _ _ _ => pts_one (pt_cmp (pc_dnotin (hu_of hr) (pv 5) (Own.fldOf (K := K) rfl (pv 0) rfl)) rfl)) (fun _ _ _ _ _ => (pe_tup (pa_cons (pe_call G_due (hr.mono (by omega)) (by rfl) T.g_due T.f_due.kp T.b_due .nil pass0 (pa_cons (pv 0) (pa_cons (pv 5) pa_nil))) (pa_cons (pv 5) pa_nil))))))
 (pss_cons (ps_set (i := 3) sc_started_until.nd rfl (Or.inl rfl) (pe_callB (Own.sorted1Of (K := K) rfl) (by rfl) T.sorted (by decide +kernel) (pa_cons (pe_lc (own := [("at", 6), ("name", 5)]) (g := gTup K 2 (gCons (gName 6) (gCons (gName 5) gNil))) (by rfl) sc_started_until.nd (pi_list (pv 2)) (blkOk_by (N := N_started_until) (sc := defScope s_started_until) (by decide +kernel)) (fun _ _ _ _ _ => (pg_tup rfl (pgs_cons (pg_name (i := 6) sc_started_until.nd rfl (Or.inl rfl)) (pgs_cons (pg_name (i := 5) sc_started_until.nd rfl (Or.inl rfl)) pgs_nil)))) (fun _ _ _ _ _ => pts_one (PW.pt (pw_and (pt_cmpR op_notN (pv 6) pe_non (nomark _)) (pw_and1 (pt_cmpR op_le (pv 6) (pv 1) (nomark _)))))) (fun _ _ _ _ _ => (pe_tup (pa_cons (pv 6) (pa_cons (pv 5) pa_nil))))) pa_nil)))
 (pss_cons (Own.ps_setDc (i := 4) (mine := [("at", 6), ("name", 5)]) (gg := gTup K 2 (gCons (gName 6) (gCons (gName 5) gNil))) (by rfl) sc_started_until.nd rfl rfl (Own.sw_trueD rfl rfl rfl (by decide +kernel)) (pi_list (pv 3)) (blkOk_by (N := N_started_until) (sc := defScope s_started_until) (by decide +kernel)) (fun _ _ _ _ _ => (pg_tup rfl (pgs_cons (pg_name (i := 6) sc_started_until.nd rfl (Or.inl rfl)) (pgs_cons (pg_name (i := 5) sc_started_until.nd rfl (Or.inl rfl)) pgs_nil)))) (fun _ _ _ _ _ => pts_nil) (fun _ _ _ _ _ => (pv 5)) (fun _ _ _ _ _ => (pv 6)))
 (pss_one (ps_ret (pe_tup (pa_cons (pe_make T.mkCo G_Course___init__ (hr.mono (by omega)) (by rfl) T.g_Course T.b_Course___init__ .nil pass0 (pa_cons (pv 1) (pa_cons (pe_fld (pv 0) rfl) (pa_cons (pe_fld (pv 0) rfl) (pa_cons (Own.pe_merge2 (pe_fld (pv 0) rfl) (pv 4)) (pa_cons (pe_fld (pv 0) rfl) pa_nil)))))) (pa_cons (pv 3) pa_nil)))))))), ?_⟩
    obtain ⟨dx, qs, qd, hc, hs, hd⟩ := id hC
    obtain ⟨dxb, qh, qw, hb, hh, hw⟩ := id B.ex
    refine ⟨qh, _, hh, trivial, fun od => ?_⟩
    have z1 : upd H qh (.frz od (.dK (kvF ys fun n => .str (hk n)))) b = some (.ins A.a_Book dxb [("hooks", .ref qh), ("waits", .ref qw)]) := by rw [upd_ne (fun e => by rw [e, hh] at hb; cases hb)]; exact hb
    have z2 : upd H qh (.frz od (.dK (kvF ys fun n => .str (hk n)))) c = some (.ins A.a_Course dx [("passed", .int now), ("dinner", .ref m), ("plan", .ref b), ("starts", .ref qs), ("dones", .ref qd)]) := by rw [upd_ne (fun e => by rw [e, hh] at hc; cases hc)]; exact hc
    refine ⟨_, rfl, c, A.a_Course, dx, _, _, rfl, z2, T.cl_Co, T.nCoB, rfl, b, dxb, _, rfl, z1, fun _ => ⟨b, dxb, qh, qw, od, _, rfl, z1, upd_same, fun it nit hm => ⟨it, qh, od, _, rfl, upd_same, Same.new nit _ _ upd_same, hm, ?_⟩⟩⟩
    rw [ItX.dropH_upd nit]
    have hF := upd_same (H := H) (a := qh) (o := .frz od (.dK (kvF ys fun n => .str (hk n))))
    refine fun D nD => lc_it walk_keys (fun i H' => Same (upd H qh (.frz od (.dK (kvF ys fun n => .str (hk n))))) H' ∧ ∃ bs : List Addr, H' D = some (.lst (bs.map V.ref)) ∧ Paired (fun b (r : Option Int × Str) => SqT K H' b [ov r.1, .str r.2]) bs (duesL hk wt ss ds (ys.take i)))
      ⟨Same.new nD, [], upd_same, .nil⟩ (fun i H' _ z => z.1 _ _ hF) ?_ (fun H3 z => ?_)
    · rintro i x H' H'' hi0 ⟨s3, bs, hD, hR⟩ ⟨rfl, key, v, hkv, rfl⟩
      obtain ⟨hi1, rfl, rfl⟩ := kvF_at hkv
      have hm := List.getElem_mem hi1
      have Cf := (hC.locked (od := od) hh nd hm).up s3
      have Bf := (B.locked (od := od) hh nd hm).up s3
      obtain ⟨dx2, qs2, qd2, hc2, hs2, hd2⟩ := id Cf
      have et : ys.take (i + 1) = ys.take i ++ [ys[i]] := by rw [List.take_succ, List.getElem?_eq_getElem hi1]; rfl
      have bl : bs.length < 64 := by
        rw [hR.length]; unfold duesL; rw [List.length_map]
        exact Nat.lt_of_le_of_lt (List.length_filter_le _ _) (by rw [List.length_take]; omega)
      refine ⟨rfl, _, rfl, _, rfl, c, A.a_Course, dx2, _, _, rfl, hc2, T.cl_Co, T.nCoS, rfl, qs2, _, rfl, .inl ⟨_, .inr ys[i], .inl hs2, rfl, rfl⟩, ?_⟩
      rw [has_kvI]
      cases el : look ss ys[i] with
      | some j =>
        refine ⟨false, rfl, s3, bs, hD, ?_⟩
        have e : duesL hk wt ss ds (ys.take (i + 1)) = duesL hk wt ss ds (ys.take i) := by
          unfold duesL; rw [et, List.filter_append, List.map_append]; simp [el]
        rw [e]; exact hR
      | none =>
        refine ⟨true, rfl, ?_⟩
        have e : duesL hk wt ss ds (ys.take (i + 1)) = duesL hk wt ss ds (ys.take i) ++ [(dueF hk wt ds ys[i], ys[i])] := by
          unfold duesL; rw [et, List.filter_append, List.map_append]; simp [el]
        refine ⟨_, rfl, _, rfl, c, m, b, now, ss, ds, ys, hk, wt, ys[i], rfl, Cf, Bf, nd, hm, fun H4 s4 => ?_⟩
        refine ⟨_, rfl, by show 2 ≤ sizeLine; decide, fun t nt => ?_⟩
        have s5 := s4.trans (Same.new nt (o := .tup [ov (dueF hk wt ds ys[i]), .str ys[i]]))
        have ht : upd H4 t (.tup [ov (dueF hk wt ds ys[i]), .str ys[i]]) t = some (.tup [ov (dueF hk wt ds ys[i]), .str ys[i]]) := upd_same
        refine cast_heap (b := upd H4 t (.tup [ov (dueF hk wt ds ys[i]), .str ys[i]])) rfl ?_
        generalize upd H4 t (.tup [ov (dueF hk wt ds ys[i]), .str ys[i]]) = H5 at s5 ht ⊢
        have hD5 := s5 _ _ hD
        refine ⟨_, hD5, by rw [List.length_map]; exact Nat.lt_of_lt_of_le bl (by decide), fun c u e => by rw [upd_ne (ne_of_none e nD)]; exact s5 _ _ (s3 _ _ e), bs ++ [t], by rw [upd_same, List.map_append]; rfl, ?_⟩
        rw [e]
        exact paired_snoc (paired_imp (fun b (r : Option Int × Str) (z : SqT K _ b [ov r.1, .str r.2]) => tupSet hD5 (noTup_lst _) (stUp z s5)) hR) (tupSet hD5 (noTup_lst _) (SqT.of ht))
    obtain ⟨s3, bs, hD, hR⟩ := z
    rw [kvF_len, List.take_length] at hR
    refine ⟨s3 _ _ hF, ?_⟩
    have nF : NoTup (.frz od (.dK (kvF ys fun n => V.str (hk n)))) := ⟨fun _ z => (nomatch z), fun _ _ z => (nomatch z)⟩
    have Dq : D ≠ qh := fun e => by rw [e, upd_same] at nD; cases nD
    have S : Same H (upd H3 qh (.dK (kvF ys fun n => .str (hk n)))) := unfrz hh s3
    have hD1 : upd H3 qh (.dK (kvF ys fun n => .str (hk n))) D = some (.lst (bs.map V.ref)) := by rw [upd_ne Dq]; exact hD
    have hR1 : Paired (fun b (r : Option Int × Str) => SqT K (upd H3 qh (.dK (kvF ys fun n => .str (hk n)))) b [ov r.1, .str r.2]) bs (duesL hk wt ss ds ys) := paired_imp (fun b (r : Option Int × Str) (z : SqT K _ b [ov r.1, .str r.2]) => tupSet (s3 _ _ hF) nF z) hR
    generalize upd H3 qh (.dK (kvF ys fun n => .str (hk n))) = H4 at S hD1 hR1 ⊢
    clear hR hD s3 nD z1 z2
    have bl : bs.length < 64 := by
      rw [hR1.length]; unfold duesL; rw [List.length_map]
      exact Nat.lt_of_le_of_lt (List.length_filter_le _ _) yl
    -- the pairs
    refine ⟨_, rfl, D, rfl, ⟨_, SqL.of hD1⟩, fun D2 nD2 => lc_it walk_list (fun i H' => Same H4 H' ∧ ∃ cs : List Addr, H' D2 = some (.lst (cs.map V.ref)) ∧ Paired (fun b (r : Str × Int) => SqT K H' b [.int r.2, .str r.1]) cs (pairsL mi ((duesL hk wt ss ds ys).take i)))
      ⟨Same.new nD2, [], upd_same, .nil⟩ (fun i H' _ z => SqL.of (z.1 _ _ hD1)) ?_ (fun H5 z => ?_)⟩
    · rintro i x H' H'' hi0 ⟨s5, cs, hC2, hRc⟩ ⟨rfl, hx⟩
      rw [List.getElem?_map] at hx
      obtain ⟨bb, hb1, rfl⟩ := Option.map_eq_some_iff.mp hx
      obtain ⟨r, hr1, hq⟩ := paired_at hR1 hb1
      have hq := stUp hq s5
      obtain ⟨hi1, er⟩ := List.getElem?_eq_some_iff.mp hr1
      have et : (duesL hk wt ss ds ys).take (i + 1) = (duesL hk wt ss ds ys).take i ++ [r] := by rw [List.take_succ, hr1]; rfl
      have ep : pairsL mi ((duesL hk wt ss ds ys).take (i + 1)) = pairsL mi ((duesL hk wt ss ds ys).take i) ++ pairsL mi [r] := by rw [et]; unfold pairsL; rw [List.filterMap_append]
      have cl : cs.length < 64 := by
        rw [hRc.length]; unfold pairsL
        exact Nat.lt_of_le_of_lt (List.length_filterMap_le _ _) (by rw [List.length_take]; have := hR1.length; omega)
      refine ⟨bb, _, rfl, hq, rfl, _, _, rfl, _, _, rfl, rfl, rfl, ?_⟩
      obtain ⟨ro, rn⟩ := r
      cases ro with
      | none =>
        refine ⟨_, rfl, rfl, false, rfl, iteF ?_⟩
        refine ⟨s5, cs, hC2, ?_⟩
        rw [ep, show pairsL mi [((none : Option Int), rn)] = [] from rfl, List.append_nil]
        exact hRc
      | some j =>
        refine ⟨_, rfl, rfl, true, rfl, iteT ?_⟩
        refine ⟨_, rfl, _, rfl, _, _, rfl, rfl, _, rfl, ite2 (fun c1 => ?_) (fun c1 => ?_)⟩
        · have e1 : pairsL mi [(some j, rn)] = [(rn, j)] := by unfold pairsL; simp [of_decide_eq_true c1]
          refine ⟨_, rfl, _, rfl, by show 2 ≤ sizeLine; decide, fun t nt => ?_⟩
          have s6 := Same.new nt (o := .tup [.int j, .str rn])
          have ht : upd H'' t (.tup [.int j, .str rn]) t = some (.tup [.int j, .str rn]) := upd_same
          refine cast_heap (b := upd H'' t (.tup [.int j, .str rn])) rfl ?_
          generalize upd H'' t (.tup [.int j, .str rn]) = H6 at s6 ht ⊢
          have hD6 := s6 _ _ hC2
          refine ⟨_, hD6, by rw [List.length_map]; exact Nat.lt_of_lt_of_le cl (by decide), fun c u e => by rw [upd_ne (ne_of_none e nD2)]; exact s6 _ _ (s5 _ _ e), cs ++ [t], by rw [upd_same, List.map_append]; rfl, ?_⟩
          rw [ep, e1]
          exact paired_snoc (paired_imp (fun b (r : Str × Int) (z : SqT K _ b [.int r.2, .str r.1]) => tupSet hD6 (noTup_lst _) (stUp z s6)) hRc) (tupSet hD6 (noTup_lst _) (SqT.of ht))
        · have e1 : pairsL mi [(some j, rn)] = [] := by unfold pairsL; simp [of_decide_eq_false (eq_false_of_ne_true c1)]
          refine ⟨s5, cs, hC2, ?_⟩
          rw [ep, e1, List.append_nil]
          exact hRc
    obtain ⟨s5, cs, hC2, hRc⟩ := z
    have len2 : bs.length = (duesL hk wt ss ds ys).length := hR1.length
    rw [List.length_map, len2, List.take_length] at hRc
    have hRc : Paired (fun b (r : Str × Int) => SqT K H5 b [.int r.2, .str r.1]) cs (freshL hk wt ss ds mi ys) := hRc
    have c1 : cs.length ≤ 1 := by rw [hRc.length]; exact fl
    refine ⟨D2, _, rfl, SqL.of hC2, by rw [List.length_map]; exact c1, fun l nl => ?_⟩
    have nl0 : H l = none := (S.trans s5).free nl
    have S6 := (S.trans s5).trans (Same.new nl (o := .lst (cs.map V.ref)))
    have hl := upd_same (H := H5) (a := l) (o := .lst (cs.map V.ref))
    have hRl := paired_imp (fun b (r : Str × Int) (z : SqT K _ b [.int r.2, .str r.1]) => stUp z (Same.new nl (o := .lst (cs.map V.ref)))) hRc
    generalize upd H5 l (.lst (cs.map V.ref)) = H6 at S6 hl hRl ⊢
    clear hC2 hRc s5 nl hD1 hR1 S
    generalize hfr : freshL hk wt ss ds mi ys = fr at fl hRl k
    have fN : ∀ x ∈ fr, look ss x.1 = none := fun x m => fresh_new (by rw [hfr]; exact m)
    -- the new ones
    refine ⟨_, rfl, l, rfl, ⟨_, SqL.of hl⟩, fun D3 nD3 => fillD walk_list (fun i H' => Same H6 H' ∧ H' D3 = some (.dK (kvI (fr.take i)))) ⟨Same.new nD3, upd_same⟩ (fun i H' _ z => SqL.of (z.1 _ _ hl)) ?_ (fun H7 z => ?_)⟩
    · rintro i x H' H'' hi0 ⟨s7, hD⟩ ⟨rfl, hx⟩
      rw [List.getElem?_map] at hx
      obtain ⟨bb, hb1, rfl⟩ := Option.map_eq_some_iff.mp hx
      obtain ⟨r, hr1, hq⟩ := paired_at hRl hb1
      have hq := stUp hq s7
      rw [List.length_map] at hi0
      have i0 : i = 0 := by omega
      subst i0
      have e1 : fr.take (0 + 1) = [r] := by rw [List.take_succ, hr1]; rfl
      refine ⟨bb, _, rfl, hq, rfl, _, _, rfl, _, _, rfl, rfl, rfl, ?_⟩
      refine ⟨_, rfl, _, rfl, _, .inr r.1, rfl, hD, by rw [kvI_len]; exact Nat.lt_of_le_of_lt (List.length_take_le _ _) (by decide), fun c u e => by rw [upd_ne (ne_of_none e nD3)]; exact s7 _ _ e, ?_⟩
      rw [upd_same, e1]
      rfl
    obtain ⟨s7, hD3⟩ := z
    have frl : fr.length = cs.length := hRl.length.symm
    rw [List.length_map, ← frl, List.take_length] at hD3
    have S7 := S6.trans s7
    have ne3 : D3 ≠ qs := fun e => by rw [e, S6 _ _ hs] at nD3; cases nD3
    have hl7 := s7 _ _ hl
    have hR7 := paired_imp (fun b (r : Str × Int) (z : SqT K _ b [.int r.2, .str r.1]) => stUp z s7) hRl
    clear hRl hl S6 s7
    have c7 := S7 _ _ hc
    have dN : ((kvI ss ++ kvI fr).map (·.1)).Nodup := by
      rw [kvI_app, kvI_keys]
      refine inr_nd ?_
      rw [List.map_append]
      refine List.nodup_append.mpr ⟨sN, ?_, fun x hx y hy e => ?_⟩
      · match fr, fl with
        | [], _ => exact List.nodup_nil
        | [_], _ => simp
        | _ :: _ :: _, fl => exact absurd fl (by simp)
      · obtain ⟨z, hz, rfl⟩ := List.mem_map.mp hy
        exact look_not (fN z hz) (by rw [← e]; exact hx)
    refine ⟨_, rfl, _, rfl, c, A.a_Course, dx, _, _, rfl, c7, T.cl_Co, T.nCoD, rfl, _, rfl, c, A.a_Course, dx, _, _, rfl, c7, T.cl_Co, T.nCoB, rfl, fun D4 nD4 => ⟨_, rfl, c, A.a_Course, dx, _, _, rfl, Same.new nD4 _ _ c7, T.cl_Co, T.nCoS, rfl, qs, kvI ss, rfl, upd_same, .inl (Same.new nD4 _ _ (S7 _ _ hs)), (ne_of_none (S7 _ _ hs) nD4).symm, by rw [kvI_len]; omega, ?_⟩⟩
    rw [merge_all (kvI ss) [] (by rw [List.nil_append, kvI_keys]; exact inr_nd sN), List.nil_append, upd_upd]
    refine ⟨_, rfl, D3, kvI fr, rfl, upd_same, .inl (Same.new nD4 _ _ hD3), (ne_of_none hD3 nD4).symm, by rw [kvI_len]; omega, ?_⟩
    rw [merge_all (kvI fr) (kvI ss) dN, kvI_app, upd_upd]
    have S8 := S7.trans (Same.new nD4 (o := .dK (kvI (ss ++ fr))))
    have hD4 := upd_same (H := H7) (a := D4) (o := .dK (kvI (ss ++ fr)))
    have hl8 := Same.new nD4 (o := .dK (kvI (ss ++ fr))) _ _ hl7
    have hR8 := paired_imp (fun b (r : Str × Int) (z : SqT K _ b [.int r.2, .str r.1]) => stUp z (Same.new nD4 (o := .dK (kvI (ss ++ fr))))) hR7
    generalize upd H7 D4 (.dK (kvI (ss ++ fr))) = H8 at S8 hD4 hl8 hR8 ⊢
    refine ⟨_, rfl, c, A.a_Course, dx, _, _, rfl, S8 _ _ hc, T.cl_Co, T.nCoE, rfl, mk_course hD4 (S8 _ _ hd) fun c' H9 nc' s9 hC' => ⟨_, rfl, by show 2 ≤ sizeLine; decide, fun t nt => ?_⟩⟩
    have s10 := Same.new nt (o := .tup [.ref c', .ref l])
    have nl : H9 l = some (.lst (cs.map V.ref)) := s9 _ _ hl8
    exact k t c' l _ ((S8.trans s9).trans s10) nl0 upd_same (hC'.up s10) ⟨cs, s10 _ _ nl, paired_imp (fun b (r : Str × Int) (z : SqT K _ b [.int r.2, .str r.1]) => stUp z (s9.trans s10)) hR8⟩
def spOpened (K : PySem.W.Frag) (CM CC CB : Addr) : Sp := fun vs H Q _ => ∃ (p b : Addr) (ys : List Str) (lo hi : Str → Int) (ds es : List PyData) (hk : Str → Str) (wt : Str → Int), vs = [.ref p, .ref b] ∧ MlAt K CM H p ys lo hi ds es ∧ BkAt CB H b ys hk wt ∧ ys.Nodup ∧ ys.length < 64 ∧ (∀ n ∈ ys, PyData.strOk n = true) ∧ freshL hk wt [] [] 0 ys = [] ∧
  ∀ c H', Same H H' → CoF CC H' c 0 p b [] [] → Q (.ref c) H'
theorem ok_opened (T : Txt K mg A) : FnOk P w K mg base CX0 7 A.a_opened A.d_opened P_opened (spOpened K A.a_Meal A.a_Course A.a_Book) := by
  have G_check_same : FnOk P w K mg base CX0 6 A.a_check_same A.d_check_same P_check_same (spSameD K A.a_Meal A.a_Book) := ok_chksame T
  have G_started_until : FnOk P w K mg base CX0 6 A.a_started_until A.d_started_until P_started_until (spStart K A.a_Course A.a_Book) := ok_start T
  have G_Course___init__ : FnOk P w K mg base CX0 1 A.a_Course___init__ A.d_Course___init__ P_Course___init__ (spCoInit A.a_Course) := ok_coinit T
  refine T.f_opened.ok sc_opened (fun vs H Q E h => ?_) (fun cdv A' outer s H vs Q E hr h => ?_)
  · obtain ⟨p, b, ys, lo, hi, ds, es, hk, wt, rfl, _⟩ := h
    rfl
  · obtain ⟨p, b, ys, lo, hi, ds, es, hk, wt, rfl, M, B, nd, yl, ok, f0, k⟩ := h
    refine ⟨_, (pss_cons (ps_expr (pe_call G_check_same (hr.mono (by omega)) (by rfl) T.g_check_same T.f_check_same.kp T.b_check_same .nil pass0 (pa_cons (pv 0) (pa_cons (pv 1) pa_nil))))
 (pss_one (ps_ret (pe_ix ix_tup (pe_call G_started_until (hr.mono (by omega)) (by rfl) T.g_started_until T.f_started_until.kp T.b_started_until .nil pass0 (pa_cons (pe_make T.mkCo G_Course___init__ (hr.mono (by omega)) (by rfl) T.g_Course T.b_Course___init__ .nil pass0 (pa_cons pe_int (pa_cons (pv 0) (pa_cons (pv 1) (pa_cons pe_dnewK (pa_cons pe_dnewK pa_nil)))))) (pa_cons pe_int pa_nil))) pe_int (fun _ _ => rfl))))), ?_⟩
    refine ⟨_, rfl, _, rfl, p, b, ys, ys, lo, hi, ds, es, hk, wt, rfl, M, B, yl, ok, ok, rfl, fun H1 s1 => ?_⟩
    refine ⟨_, rfl, _, rfl, fun q1 n1 => fun q2 n2 => ?_⟩
    have s2 := (Same.new n1 (o := .dK [])).trans (Same.new n2 (o := .dK []))
    refine mk_course (ss := []) (ds := []) (Same.new n2 _ _ upd_same) upd_same fun c H2 nc s3 hC => ⟨c, p, b, 0, 0, [], [], ys, hk, wt, rfl, hC, ((B.up s1).up s2).up s3, nd, yl, List.nodup_nil, by decide, by decide, by rw [f0]; decide, fun t c2 l H3 s4 _ ht hC2 _ => ?_⟩
    rw [f0] at hC2
    exact ⟨_, _, _, _, rfl, rfl, SqT.of ht, rfl, k c2 _ ((((s1.trans s2).trans s3)).trans s4) hC2⟩
def spEvInit (K : PySem.W.Frag) (CM CC CB CE : Addr) : Sp := fun vs H Q _ => ∃ (e dx p b : Addr) (ys : List Str) (lo hi : Str → Int) (ds es : List PyData) (hk : Str → Str) (wt : Str → Int), vs = [.ref e, .ref p, .ref b] ∧ H e = some (.ins CE dx []) ∧ MlAt K CM (er H e) p ys lo hi ds es ∧ BkAt CB (er H e) b ys hk wt ∧ ys.Nodup ∧ ys.length < 64 ∧ (∀ n ∈ ys, PyData.strOk n = true) ∧ freshL hk wt [] [] 0 ys = [] ∧
  ∀ c l H', Same (er H e) (er (er H' e) l) → H l = none → H' e = some (.ins CE dx [("course", .ref c), ("past", .ref l)]) → H' l = some (.lst []) → CoF CC (er (er H' e) l) c 0 p b [] [] → Q .non H'
theorem ok_evinit (T : Txt K mg A) : FnOk P w K mg base CX0 8 A.a_Evening___init__ A.d_Evening___init__ P_Evening___init__ (spEvInit K A.a_Meal A.a_Course A.a_Book A.a_Evening) := by
  have G_opened : FnOk P w K mg base CX0 7 A.a_opened A.d_opened P_opened (spOpened K A.a_Meal A.a_Course A.a_Book) := ok_opened T
  refine T.f_Evening___init__.ok sc_Evening___init__ (fun vs H Q E h => ?_) (fun cdv A' outer s H vs Q E hr h => ?_)
  · obtain ⟨e, dx, p, b, ys, lo, hi, ds, es, hk, wt, rfl, _⟩ := h
    rfl
  · obtain ⟨e, dx, p, b, ys, lo, hi, ds, es, hk, wt, rfl, he, M, B, nd, yl, ok, f0, k⟩ := h
    refine ⟨_, (pss_cons (ps_fld (pv 0) (pe_call G_opened (hr.mono (by omega)) (by rfl) T.g_opened T.f_opened.kp T.b_opened .nil pass0 (pa_cons (pv 1) (pa_cons (pv 2) pa_nil))) rfl)
 (pss_one (ps_fld (pv 0) (pe_lst pa_nil) rfl))), ?_⟩
    refine ⟨_, rfl, _, rfl, p, b, ys, lo, hi, ds, es, hk, wt, rfl, M.up (er_same _ _), B.up (er_same _ _), nd, yl, ok, f0, fun c H1 s1 hC => ?_⟩
    refine ⟨_, rfl, e, A.a_Evening, dx, _, rfl, s1 _ _ he, T.cl_Ev, T.nEvC, by decide, ?_⟩
    refine ⟨Nat.zero_le _, fun l nl => ⟨_, rfl, e, A.a_Evening, dx, _, rfl, Same.new nl _ _ upd_same, T.cl_Ev, T.nEvP, by show 1 < 1000; decide, ?_⟩⟩
    have n1 : H1 l = none := by
      by_cases z : l = e
      · rw [z, upd_same] at nl; cases nl
      · rwa [upd_ne z] at nl
    have nle : l ≠ e := fun z => by rw [z, upd_same] at nl; cases nl
    have E : ∀ x, x ≠ e → x ≠ l → upd (upd (upd H1 e (.ins A.a_Evening dx (putF "course" (.ref c) []))) l (.lst [])) e (.ins A.a_Evening dx (putF "past" (.ref l) (putF "course" (.ref c) []))) x = H1 x := fun x n1 n2 => by rw [upd_ne n1, upd_ne n2, upd_ne n1]
    have sF : ∀ x u, H1 x = some u → x ≠ e → er (er (upd (upd (upd H1 e (.ins A.a_Evening dx (putF "course" (.ref c) []))) l (.lst [])) e (.ins A.a_Evening dx (putF "past" (.ref l) (putF "course" (.ref c) [])))) e) l x = some u := fun x u h ne => by
      have nl : x ≠ l := fun z => by rw [z, n1] at h; cases h
      exact er_of nl (er_of ne (by rw [E x ne nl]; exact h))
    obtain ⟨dxc, qs, qd, h1, h2, h3⟩ := hC
    refine k c l _ (fun x u h => sF x u (s1 _ _ (er_some h).2) (er_some h).1) (s1.free n1) upd_same (by rw [upd_ne nle, upd_same]) ⟨dxc, qs, qd, sF _ _ h1 ?_, sF _ _ h2 ?_, sF _ _ h3 ?_⟩
    · rintro rfl; rw [s1 _ _ he] at h1; have := (HO.ins.inj (Option.some.inj h1)).2.2; cases this
    · rintro rfl; rw [s1 _ _ he] at h2; cases h2
    · rintro rfl; rw [s1 _ _ he] at h3; cases h3
end
end K5
set_option Elab.async false
set_option linter.all false
set_option maxRecDepth 100000
set_option maxHeartbeats 4000000
namespace K5
open PySem L2
local macro_rules | `(tactic| walk_at "rd1") => `(tactic| first
  | refine ⟨_, _, rfl, rfl, ?_⟩
  | refine ⟨_, _, _, _, rfl, rfl, SqL.of (by assumption), rfl, ?_⟩
  | refine ⟨_, _, _, _, rfl, rfl, (by assumption), rfl, ?_⟩
  | refine .inl ⟨_, rfl, ?_⟩
  | refine ⟨_, rfl, ?_⟩
  | refine ⟨(by unfold CMul; omega), ?_⟩
  | refine ⟨(by unfold CPow; omega), ?_⟩
  | refine ⟨(by (try dsimp only); omega), ?_⟩
  | refine ⟨(by unfold CDiv; omega), ?_⟩
  | fail "rd1")
local macro_rules | `(tactic| walk_at "rd") => `(tactic| repeat' (walk_at "rd1"))
open Own
section
variable {P : Program} {w : World} {K : PySem.W.Frag} {mg : Str → Option Value} {base : Heap} {A : Ad}
def spRuns (CC : Addr) : Sp := fun vs H Q _ => ∃ (c m b : Addr) (now : Int) (ss ds : List (Str × Int)) (n : Str), vs = [.ref c, .str n] ∧ CoF CC H c now m b ss ds ∧ Q (.bl ((look ss n).isSome && (look ds n).isNone)) H
theorem ok_runs (T : Txt K mg A) : FnOk P w K mg base CX0 1 A.a_is_running A.d_is_running P_is_running (spRuns A.a_Course) := by
  refine T.f_is_running.ok sc_is_running (fun vs H Q E h => ?_) (fun cdv A' outer s H vs Q E hr h => ?_)
  · obtain ⟨c, m, b, now, ss, ds, n, rfl, _⟩ := h
    rfl
  · obtain ⟨c, m, b, now, ss, ds, n, rfl, ⟨dx, qs, qd, hc, hs, hd⟩, k⟩ := h
    refine ⟨_, (pss_one (ps_ret (pe_and (pe_cmp (pc_din (hu_of hr) (pv 1) (pe_fld (pv 0) rfl)) rfl) (pe_one (pe_cmp (pc_dnotin (hu_of hr) (pv 1) (pe_fld (pv 0) rfl)) rfl))))), ?_⟩
    refine ⟨_, rfl, _, rfl, c, A.a_Course, dx, _, _, rfl, hc, T.cl_Co, T.nCoS, rfl, qs, _, rfl, .inl ⟨_, .inr n, .inl hs, rfl, rfl⟩, ?_⟩
    rw [has_kvI]
    refine ⟨(look ss n).isSome, rfl, ?_⟩
    cases el : look ss n with
    | none =>
      rw [el] at k
      exact iteF k
    | some i =>
      rw [el] at k
      refine iteT ⟨_, rfl, _, rfl, c, A.a_Course, dx, _, _, rfl, hc, T.cl_Co, T.nCoE, rfl, qd, _, rfl, .inl ⟨_, .inr n, .inl hd, rfl, rfl⟩, ?_⟩
      rw [has_kvI]
      cases ed : look ds n with
      | none => rw [ed] at k; exact k
      | some j => rw [ed] at k; exact k
/-- how a dish stands -/
def stD (ss ds : List (Str × Int)) (n : Str) : PyData := match look ss n with
  | none => .tuple [.str "waits"]
  | some s => match look ds n with
    | none => .tuple [.str "runs", .int s]
    | some d => .tuple [.str "done", .int s, .int d]
def spStateOf (K : PySem.W.Frag) (CM CC : Addr) : Sp := fun vs H Q _ => ∃ (c m b : Addr) (now : Int) (ss ds : List (Str × Int)) (ys : List Str) (lo hi : Str → Int) (ws es : List PyData) (n : Str), vs = [.ref c, .str n] ∧ CoF CC H c now m b ss ds ∧ MlAt K CM H m ys lo hi ws es ∧ ys.Nodup ∧ n ∈ ys ∧ ∀ t H', Same H H' → H' t ≠ none → Dp K H' (.ref t) (stD ss ds n) → Q (.ref t) H'
theorem ok_stateof (T : Txt K mg A) : FnOk P w K mg base CX0 3 A.a_state_of A.d_state_of P_state_of (spStateOf K A.a_Meal A.a_Course) := by
  have G_check_dish : FnOk P w K mg base CX0 2 A.a_check_dish A.d_check_dish P_check_dish (spChkDishP K) := ok_chkdishP T
  have G_Meal_dishes : FnOk P w K mg base CX0 1 A.a_Meal_dishes A.d_Meal_dishes P_Meal_dishes (spMDishes K A.a_Meal) := ok_mdishes T
  refine T.f_state_of.ok sc_state_of (fun vs H Q E h => ?_) (fun cdv A' outer s H vs Q E hr h => ?_)
  · obtain ⟨c, m, b, now, ss, ds, ys, lo, hi, ws, es, n, rfl, _⟩ := h
    rfl
  · obtain ⟨c, m, b, now, ss, ds, ys, lo, hi, ws, es, n, rfl, hC, M, nd, mn, k⟩ := h
    refine ⟨_, (pss_cons (ps_expr (pe_call G_check_dish (hr.mono (by omega)) (by rfl) T.g_check_dish T.f_check_dish.kp T.b_check_dish .nil pass0 (pa_cons (pv 1) (pa_cons (pe_meth0 (pe_fld (pv 0) rfl) T.cl_M T.m_dishes G_Meal_dishes (hr.mono (by omega)) T.b_Meal_dishes .nil pass0) pa_nil))))
 (pss_cons (ps_if (pt_cmp (pc_dnotin (hu_of hr) (pv 1) (pe_fld (pv 0) rfl)) rfl)
 (pss_one (ps_ret (pe_tup (pa_cons pe_str pa_nil))))
 pss_nil)
 (pss_cons (ps_if (pt_cmp (pc_dnotin (hu_of hr) (pv 1) (pe_fld (pv 0) rfl)) rfl)
 (pss_one (ps_ret (pe_tup (pa_cons pe_str (pa_cons (pe_dget (hu_of hr) (pe_fld (pv 0) rfl) (pv 1) (fun _ _ => rfl)) pa_nil)))))
 pss_nil)
 (pss_one (ps_ret (pe_tup (pa_cons pe_str (pa_cons (pe_dget (hu_of hr) (pe_fld (pv 0) rfl) (pv 1) (fun _ _ => rfl)) (pa_cons (pe_dget (hu_of hr) (pe_fld (pv 0) rfl) (pv 1) (fun _ _ => rfl)) pa_nil))))))))), ?_⟩
    obtain ⟨dx, qs, qd, hc, hs, hd⟩ := id hC
    obtain ⟨dxm, qb, qw, qp, kvs, wv, ps, hp, _⟩ := id M.ex
    refine ⟨_, rfl, _, rfl, c, A.a_Course, dx, _, _, rfl, hc, T.cl_Co, T.nCoD, rfl, m, dxm, _, rfl, hp, rfl, m, ys, lo, hi, ws, es, rfl, M, fun l H1 kvs nl s1 hl hP => ?_⟩
    obtain ⟨_, hv, _⟩ := hP.val nd mn
    refine ⟨n, l, kvs, rfl, .inl hl, by rw [hv]; rfl, ?_⟩
    refine ⟨_, rfl, _, rfl, c, A.a_Course, dx, _, _, rfl, s1 _ _ hc, T.cl_Co, T.nCoS, rfl, qs, _, rfl, .inl ⟨_, .inr n, .inl (s1 _ _ hs), rfl, rfl⟩, ?_⟩
    rw [has_kvI]
    cases el : look ss n with
    | none =>
      refine ⟨true, rfl, iteT ⟨by show 1 ≤ sizeLine; decide, fun t nt => ?_⟩⟩
      have e : stD ss ds n = .tuple [.str "waits"] := by unfold stD; rw [el]
      exact k t _ (s1.trans (Same.new nt)) (by rw [upd_same]; exact fun z => nomatch z) (by rw [e]; exact .tup (SqT.of upd_same) (.cons (.str _) .nil))
    | some i =>
      refine ⟨false, rfl, iteF ?_⟩
      refine ⟨_, rfl, _, rfl, c, A.a_Course, dx, _, _, rfl, s1 _ _ hc, T.cl_Co, T.nCoE, rfl, qd, _, rfl, .inl ⟨_, .inr n, .inl (s1 _ _ hd), rfl, rfl⟩, ?_⟩
      rw [has_kvI]
      have vs : valV (kvI ss) (.inr n) = some (.int i) := by rw [val_kvI, el]; rfl
      cases ed : look ds n with
      | none =>
        refine ⟨true, rfl, iteT ⟨_, rfl, c, A.a_Course, dx, _, _, rfl, s1 _ _ hc, T.cl_Co, T.nCoS, rfl, _, rfl, qs, .int i, rfl, .inl ⟨_, .inr n, .inl (s1 _ _ hs), rfl, vs.symm⟩, by show 2 ≤ sizeLine; decide, fun t nt => ?_⟩⟩
        have e : stD ss ds n = .tuple [.str "runs", .int i] := by unfold stD; rw [el]; dsimp only; rw [ed]
        exact k t _ (s1.trans (Same.new nt)) (by rw [upd_same]; exact fun z => nomatch z) (by rw [e]; exact .tup (SqT.of upd_same) (.cons (.str _) (.cons (.int _) .nil)))
      | some j =>
        have vd : valV (kvI ds) (.inr n) = some (.int j) := by rw [val_kvI, ed]; rfl
        refine ⟨false, rfl, iteF ⟨_, rfl, c, A.a_Course, dx, _, _, rfl, s1 _ _ hc, T.cl_Co, T.nCoS, rfl, _, rfl, qs, .int i, rfl, .inl ⟨_, .inr n, .inl (s1 _ _ hs), rfl, vs.symm⟩, _, rfl, c, A.a_Course, dx, _, _, rfl, s1 _ _ hc, T.cl_Co, T.nCoE, rfl, _, rfl, qd, .int j, rfl, .inl ⟨_, .inr n, .inl (s1 _ _ hd), rfl, vd.symm⟩, by show 3 ≤ sizeLine; decide, fun t nt => ?_⟩⟩
        have e : stD ss ds n = .tuple [.str "done", .int i, .int j] := by unfold stD; rw [el]; dsimp only; rw [ed]
        exact k t _ (s1.trans (Same.new nt)) (by rw [upd_same]; exact fun z => nomatch z) (by rw [e]; exact .tup (SqT.of upd_same) (.cons (.str _) (.cons (.int _) (.cons (.int _) .nil))))
def spGone (K : PySem.W.Frag) (CM CC CB : Addr) : Sp := fun vs H Q _ => ∃ (c m b : Addr) (now mi : Int) (ss ds : List (Str × Int)) (ys : List Str) (lo hi : Str → Int) (ws es : List PyData) (hk : Str → Str) (wt : Str → Int), vs = [.ref c, .int mi] ∧ 1 ≤ mi ∧ CoF CC H c now m b ss ds ∧ MlAt K CM H m ys lo hi ws es ∧ BkAt CB H b ys hk wt ∧ ys.Nodup ∧ ys.length < 64 ∧ (ss.map (·.1)).Nodup ∧ ss.length ≤ 900 ∧ ds.length ≤ 900 ∧ (freshL hk wt ss ds (now + mi) ys).length ≤ 1 ∧
  (∀ n ∈ ys, ∀ i, look (ss ++ freshL hk wt ss ds (now + mi) ys) n = some i → look ds n = none → now + mi - i ≤ hi n) ∧
  ∀ t c' l H', Same H H' → H l = none → H' t = some (.tup [.ref c', .ref l]) → CoF CC H' c' (now + mi) m b (ss ++ freshL hk wt ss ds (now + mi) ys) ds → PrsL K H' l (freshL hk wt ss ds (now + mi) ys) → Q (.ref t) H'
theorem ok_gone (T : Txt K mg A) : FnOk P w K mg base CX0 7 A.a_gone A.d_gone P_gone (spGone K A.a_Meal A.a_Course A.a_Book) := by
  have G_is_integer : FnOk P w K mg base CX0 1 A.a_is_integer A.d_is_integer P_is_integer (spIsInt K) := ok_isint T
  have G_started_until : FnOk P w K mg base CX0 6 A.a_started_until A.d_started_until P_started_until (spStart K A.a_Course A.a_Book) := ok_start T
  have G_Meal_dishes : FnOk P w K mg base CX0 1 A.a_Meal_dishes A.d_Meal_dishes P_Meal_dishes (spMDishes K A.a_Meal) := ok_mdishes T
  have G_is_running : FnOk P w K mg base CX0 1 A.a_is_running A.d_is_running P_is_running (spRuns A.a_Course) := ok_runs T
  refine T.f_gone.ok sc_gone (fun vs H Q E h => ?_) (fun cdv A' outer s H vs Q E hr h => ?_)
  · obtain ⟨c, m, b, now, mi, ss, ds, ys, lo, hi, ws, es, hk, wt, rfl, _⟩ := h
    rfl
  · obtain ⟨c, m, b, now, mi, ss, ds, ys, lo, hi, ws, es, hk, wt, rfl, m1, hC, M, B, nd, yl, sN, sl, dl, fl, hov, k⟩ := h
    refine ⟨_, (pss_cons (ps_if (PW.pt (pw_or (pt_not (pt_val (pe_call G_is_integer (hr.mono (by omega)) (by rfl) T.g_is_integer T.f_is_integer.kp T.b_is_integer .nil pass0 (pa_cons (pv 1) pa_nil)))) (pw_or1 (pt_cmpR op_lt (pv 1) pe_int (nomark _)))))
 (pss_one ps_never)
 pss_nil)
 (pss_cons (ps_asg (pe_call G_started_until (hr.mono (by omega)) (by rfl) T.g_started_until T.f_started_until.kp T.b_started_until .nil pass0 (pa_cons (pv 0) (pa_cons (pe_op op_add (pe_fld (pv 0) rfl) (pv 1)) pa_nil))) (pg_tup (by rfl) (pgs_cons (pg_name (i := 2) sc_gone.nd rfl (Or.inl rfl)) (pgs_cons (pg_name (i := 3) sc_gone.nd rfl (Or.inl rfl)) pgs_nil))))
 (pss_cons (ps_set (i := 4) sc_gone.nd rfl (Or.inl rfl) (pe_meth0 (pe_fld (pv 2) rfl) T.cl_M T.m_dishes G_Meal_dishes (hr.mono (by omega)) T.b_Meal_dishes .nil pass0))
 (pss_cons (ps_lock (ps_for PassesOwn.never rfl (pi_keys (pv 4)) (pg_name (i := 5) sc_gone.nd rfl (Or.inl rfl))
 (pss_one (ps_if (PW.pt (pw_and (pt_val (pe_call G_is_running (hr.mono (by omega)) (by rfl) T.g_is_running T.f_is_running.kp T.b_is_running .nil pass0 (pa_cons (pv 2) (pa_cons (pv 5) pa_nil)))) (pw_and1 (pt_cmpR op_gt (pe_op op_sub (pe_fld (pv 2) rfl) (pe_dget (hu_of hr) (pe_fld (pv 2) rfl) (pv 5) (fun _ _ => rfl))) (pe_ix ix_tup (pe_dget (hu_of hr) (pv 4) (pv 5) (fun _ _ => rfl)) pe_int (fun _ _ => rfl)) (nomark _)))))
 (pss_one ps_never)
 pss_nil))))
 (pss_one (ps_ret (pe_tup (pa_cons (pv 2) (pa_cons (pv 3) pa_nil))))))))), ?_⟩
    obtain ⟨dx, qs, qd, hc, hs, hd⟩ := id hC
    refine ⟨_, rfl, .int mi, .int mi, rfl, .int _, ?_⟩
    refine ⟨true, rfl, iteF ⟨_, rfl, _, _, rfl, rfl, _, rfl, ite2 (fun c1 => absurd (of_decide_eq_true c1) (by omega)) (fun _ => ?_)⟩⟩
    obtain ⟨dxm, qb, qw, qp, kvm, wv, ps, hp, _⟩ := id M.ex
    refine ⟨_, rfl, _, rfl, c, A.a_Course, dx, _, _, rfl, hc, T.cl_Co, T.nCoP, rfl, _, rfl, _, _, rfl, rfl, c, m, b, now, now + mi, ss, ds, ys, hk, wt, rfl, hC, B, nd, yl, sN, sl, dl, fl, fun t c' l H1 s1 nl ht hC' hl => ?_⟩
    refine ⟨t, _, rfl, SqT.of ht, rfl, _, _, rfl, _, _, rfl, rfl, ?_⟩
    dsimp only [List.set]
    obtain ⟨dxc, qs', qd', hc', hs', hd'⟩ := id hC'
    refine ⟨_, rfl, c', A.a_Course, dxc, _, _, rfl, hc', T.cl_Co, T.nCoD, rfl, m, dxm, _, rfl, s1 _ _ hp, rfl, m, ys, lo, hi, ws, es, rfl, M.up s1, fun l2 H2 kvs nl2 s2 hl2 hP => ?_⟩
    refine ⟨l2, _, hl2, trivial, fun od => ?_⟩
    have s3 : Same H1 (upd H2 l2 (.frz od (.dK kvs))) := fun b u e => by rw [upd_ne (ne_of_none e nl2)]; exact s2 _ _ e
    have hX := upd_same (H := H2) (a := l2) (o := .frz od (.dK kvs))
    have PX : Pr2 K (upd H2 l2 (.frz od (.dK kvs))) ys (fun n => .int (lo n)) (fun n => .int (hi n)) kvs := hP.set hl2 (noTup_dK _)
    refine ⟨_, rfl, l2, od, rfl, .inl ⟨kvs, hX, for_it walk_keys (fun i σ' H' => ∃ u, σ' = [some (.ref c), some (.int mi), some (.ref c'), some (.ref l), some (.ref l2), u] ∧ Same (upd H2 l2 (.frz od (.dK kvs))) H')
      ⟨_, rfl, Same.refl _⟩ (fun i σ' H' _ ⟨_, _, e⟩ => e _ _ hX) ?_ (fun σ' H' z => ?_)⟩⟩
    · rintro i x σ' H' H'' hi0 ⟨u, rfl, s4⟩ ⟨rfl, key, v, hkv, rfl⟩
      obtain ⟨hi1, a, rfl, rfl, hq⟩ := PX.get hkv
      have hm := List.getElem_mem hi1
      have S4 := s3.trans s4
      refine ⟨_, rfl, _, rfl, c', m, b, now + mi, _, ds, ys[i], rfl, hC'.up S4, ?_⟩
      cases el : look (ss ++ freshL hk wt ss ds (now + mi) ys) ys[i] with
      | none => exact ⟨false, rfl, iteF ⟨_, rfl, s4⟩⟩
      | some j =>
        cases ed : look ds ys[i] with
        | some j2 => exact ⟨false, rfl, iteF ⟨_, rfl, s4⟩⟩
        | none =>
          obtain ⟨a2, hv, hq2⟩ := PX.val nd hm
          have vs : valV (kvI (ss ++ freshL hk wt ss ds (now + mi) ys)) (.inr ys[i]) = some (.int j) := by rw [val_kvI, el]; rfl
          have le := hov _ hm j el ed
          refine ⟨true, rfl, iteT ?_⟩
          refine ⟨_, rfl, c', A.a_Course, dxc, _, _, rfl, S4 _ _ hc', T.cl_Co, T.nCoP, rfl, _, rfl, c', A.a_Course, dxc, _, _, rfl, S4 _ _ hc', T.cl_Co, T.nCoS, rfl, _, rfl, qs', .int j, rfl, .inl ⟨_, .inr ys[i], .inl (S4 _ _ hs'), rfl, vs.symm⟩, _, _, rfl, rfl, ?_⟩
          refine ⟨_, rfl, _, rfl, l2, .ref a2, rfl, .inl ⟨_, .inr ys[i], .inr ⟨od, s4 _ _ hX⟩, rfl, hv.symm⟩, _, _, _, _, rfl, rfl, stUp hq2 s4, rfl, _, _, rfl, rfl, _, rfl, ite2 (fun c1 => absurd (of_decide_eq_true c1) (by omega)) (fun _ => ⟨_, rfl, s4⟩)⟩
    obtain ⟨u, rfl, s4⟩ := z
    refine ⟨s4 _ _ hX, ?_⟩
    have S5 : Same H1 (upd H' l2 (.dK kvs)) := fun b u e => by rw [upd_ne (ne_of_none e nl2)]; exact s4 _ _ (s3 _ _ e)
    exact ⟨_, rfl, _, rfl, by show 2 ≤ sizeLine; decide, fun t2 nt2 => k t2 c' l _ ((s1.trans S5).trans (Same.new nt2)) nl upd_same ((hC'.up S5).up (Same.new nt2)) ((hl.up S5).up (Same.new nt2))⟩
/-- an error that holds a name -/
def RaN (C : Addr) (n : Str) (H : Hp) (E : XK) : Prop := ∀ y dd H', Same H H' → H' dd = some (.xd [("name", y)]) → y = .str n → E (.ref C) (some dd) H'
theorem sd_str {H : Hp} {n : Nat} {x : Str} {y : V} (h : SD K n H (.str x) y) : y = .str x := by
  rcases h with ⟨d, h1, h2, _⟩ | ⟨a, b, e, _⟩
  · cases h1
    cases h2
    rfl
  · cases e
theorem ok_ovi (T : Txt K mg A) (n : Nat) : FnOk P w K mg base CX0 (n + 1) A.a_Overdue___init__ A.d_Overdue___init__ P_Overdue___init__ (spNDI K n A.a_Overdue) := by
  have G_copied : FnOk P w K mg base CX0 n A.a_copied A.d_copied P_copied (spCopy K n) := ok_copied T n
  refine T.f_Overdue___init__.ok sc_Overdue___init__ (fun vs H Q E h => ?_) (fun cdv A' outer s H vs Q E hr h => ?_)
  · obtain ⟨a, x, G, rfl, _⟩ := h
    rfl
  · obtain ⟨a, x, G, rfl, ha, ga, ⟨sG, hx⟩, k⟩ := h
    refine ⟨_, (pss_one (ps_ost (pv 0) (pe_call G_copied (hr.mono (by omega)) (by rfl) T.g_copied T.f_copied.kp T.b_copied .nil pass0 (pa_cons (pv 1) pa_nil)))), ?_⟩
    rcases hx with ⟨d, hx, hd, hw⟩ | ⟨a2, rfl, ha2, hn⟩
    · refine ⟨_, rfl, x, rfl, .inl ⟨d, G, sG, hx, hd, hw, fun y G' Hc s1 mo sG' hy => ⟨_, rfl, a, A.a_Overdue, rfl, T.xOv, T.nOv, .inl ⟨s1 _ _ ha, fun dx h1 h2 => k y Hc dx s1 h1 h2 fun H' hh => .inl ⟨d, ?_, ?_, hd, hw⟩⟩⟩⟩⟩
      · exact dpSame (fun b u e => hh b u (s1 _ _ (sG _ _ e)) fun z => by rw [z, ga] at e; cases e) hx
      · refine dpSame (fun b u e => hh b u (sG' _ _ e) fun z => ?_) hy
        subst z
        rcases mo.new b (by rw [e]; exact fun z => nomatch z) with z | z
        · exact z ga
        · rw [ha] at z; cases z
    · refine ⟨_, rfl, _, rfl, .inr ⟨a2, rfl, ha2, hn, fun b Hc s1 hb0 hb => ⟨_, rfl, a, A.a_Overdue, rfl, T.xOv, T.nOv, .inl ⟨s1 _ _ ha, fun dx h1 h2 => k _ Hc dx s1 h1 h2 fun H' hh => .inr ⟨a2, b, rfl, rfl, ?_, ?_⟩⟩⟩⟩⟩
      · exact hh _ _ (s1 _ _ ha2) fun z => by rw [z, ha] at ha2; exact exo_dK (Option.some.inj ha2)
      · exact hh _ _ hb fun z => by rw [z, ha] at hb0; cases hb0
theorem ok_tsi (T : Txt K mg A) (n : Nat) : FnOk P w K mg base CX0 (n + 1) A.a_TooSoon___init__ A.d_TooSoon___init__ P_TooSoon___init__ (spNDI K n A.a_TooSoon) := by
  have G_copied : FnOk P w K mg base CX0 n A.a_copied A.d_copied P_copied (spCopy K n) := ok_copied T n
  refine T.f_TooSoon___init__.ok sc_TooSoon___init__ (fun vs H Q E h => ?_) (fun cdv A' outer s H vs Q E hr h => ?_)
  · obtain ⟨a, x, G, rfl, _⟩ := h
    rfl
  · obtain ⟨a, x, G, rfl, ha, ga, ⟨sG, hx⟩, k⟩ := h
    refine ⟨_, (pss_one (ps_ost (pv 0) (pe_call G_copied (hr.mono (by omega)) (by rfl) T.g_copied T.f_copied.kp T.b_copied .nil pass0 (pa_cons (pv 1) pa_nil)))), ?_⟩
    rcases hx with ⟨d, hx, hd, hw⟩ | ⟨a2, rfl, ha2, hn⟩
    · refine ⟨_, rfl, x, rfl, .inl ⟨d, G, sG, hx, hd, hw, fun y G' Hc s1 mo sG' hy => ⟨_, rfl, a, A.a_TooSoon, rfl, T.xTs, T.nTs, .inl ⟨s1 _ _ ha, fun dx h1 h2 => k y Hc dx s1 h1 h2 fun H' hh => .inl ⟨d, ?_, ?_, hd, hw⟩⟩⟩⟩⟩
      · exact dpSame (fun b u e => hh b u (s1 _ _ (sG _ _ e)) fun z => by rw [z, ga] at e; cases e) hx
      · refine dpSame (fun b u e => hh b u (sG' _ _ e) fun z => ?_) hy
        subst z
        rcases mo.new b (by rw [e]; exact fun z => nomatch z) with z | z
        · exact z ga
        · rw [ha] at z; cases z
    · refine ⟨_, rfl, _, rfl, .inr ⟨a2, rfl, ha2, hn, fun b Hc s1 hb0 hb => ⟨_, rfl, a, A.a_TooSoon, rfl, T.xTs, T.nTs, .inl ⟨s1 _ _ ha, fun dx h1 h2 => k _ Hc dx s1 h1 h2 fun H' hh => .inr ⟨a2, b, rfl, rfl, ?_, ?_⟩⟩⟩⟩⟩
      · exact hh _ _ (s1 _ _ ha2) fun z => by rw [z, ha] at ha2; exact exo_dK (Option.some.inj ha2)
      · exact hh _ _ hb fun z => by rw [z, ha] at hb0; cases hb0
theorem ok_tei (T : Txt K mg A) (n : Nat) : FnOk P w K mg base CX0 (n + 1) A.a_TooEarly___init__ A.d_TooEarly___init__ P_TooEarly___init__ (spNDI K n A.a_TooEarly) := by
  have G_copied : FnOk P w K mg base CX0 n A.a_copied A.d_copied P_copied (spCopy K n) := ok_copied T n
  refine T.f_TooEarly___init__.ok sc_TooEarly___init__ (fun vs H Q E h => ?_) (fun cdv A' outer s H vs Q E hr h => ?_)
  · obtain ⟨a, x, G, rfl, _⟩ := h
    rfl
  · obtain ⟨a, x, G, rfl, ha, ga, ⟨sG, hx⟩, k⟩ := h
    refine ⟨_, (pss_one (ps_ost (pv 0) (pe_call G_copied (hr.mono (by omega)) (by rfl) T.g_copied T.f_copied.kp T.b_copied .nil pass0 (pa_cons (pv 1) pa_nil)))), ?_⟩
    rcases hx with ⟨d, hx, hd, hw⟩ | ⟨a2, rfl, ha2, hn⟩
    · refine ⟨_, rfl, x, rfl, .inl ⟨d, G, sG, hx, hd, hw, fun y G' Hc s1 mo sG' hy => ⟨_, rfl, a, A.a_TooEarly, rfl, T.xTe, T.nTe, .inl ⟨s1 _ _ ha, fun dx h1 h2 => k y Hc dx s1 h1 h2 fun H' hh => .inl ⟨d, ?_, ?_, hd, hw⟩⟩⟩⟩⟩
      · exact dpSame (fun b u e => hh b u (s1 _ _ (sG _ _ e)) fun z => by rw [z, ga] at e; cases e) hx
      · refine dpSame (fun b u e => hh b u (sG' _ _ e) fun z => ?_) hy
        subst z
        rcases mo.new b (by rw [e]; exact fun z => nomatch z) with z | z
        · exact z ga
        · rw [ha] at z; cases z
    · refine ⟨_, rfl, _, rfl, .inr ⟨a2, rfl, ha2, hn, fun b Hc s1 hb0 hb => ⟨_, rfl, a, A.a_TooEarly, rfl, T.xTe, T.nTe, .inl ⟨s1 _ _ ha, fun dx h1 h2 => k _ Hc dx s1 h1 h2 fun H' hh => .inr ⟨a2, b, rfl, rfl, ?_, ?_⟩⟩⟩⟩⟩
      · exact hh _ _ (s1 _ _ ha2) fun z => by rw [z, ha] at ha2; exact exo_dK (Option.some.inj ha2)
      · exact hh _ _ hb fun z => by rw [z, ha] at hb0; cases hb0
def spGoneX (K : PySem.W.Frag) (CM CC CB CO : Addr) : Sp := fun vs H _ E => ∃ (c m b : Addr) (now mi : Int) (ss ds : List (Str × Int)) (ys : List Str) (lo hi : Str → Int) (ws es : List PyData) (hk : Str → Str) (wt : Str → Int) (no : Str), vs = [.ref c, .int mi] ∧ 1 ≤ mi ∧ CoF CC H c now m b ss ds ∧ MlAt K CM H m ys lo hi ws es ∧ BkAt CB H b ys hk wt ∧ ys.Nodup ∧ ys.length < 64 ∧ (ss.map (·.1)).Nodup ∧ ss.length ≤ 900 ∧ ds.length ≤ 900 ∧ (freshL hk wt ss ds (now + mi) ys).length ≤ 1 ∧
  no ∈ ys ∧ (∃ i, look (ss ++ freshL hk wt ss ds (now + mi) ys) no = some i ∧ look ds no = none ∧ hi no < now + mi - i) ∧ (∀ n ∈ ys, ∀ i, look (ss ++ freshL hk wt ss ds (now + mi) ys) n = some i → look ds n = none → hi n < now + mi - i → n = no) ∧ RaN CO no H E
theorem ok_goneX (T : Txt K mg A) : FnOk P w K mg base (L2.CX P w) 7 A.a_gone A.d_gone P_gone (spGoneX K A.a_Meal A.a_Course A.a_Book A.a_Overdue) := by
  have G_is_integer : FnOk P w K mg base CX0 1 A.a_is_integer A.d_is_integer P_is_integer (spIsInt K) := ok_isint T
  have G_started_until : FnOk P w K mg base CX0 6 A.a_started_until A.d_started_until P_started_until (spStart K A.a_Course A.a_Book) := ok_start T
  have G_Meal_dishes : FnOk P w K mg base CX0 1 A.a_Meal_dishes A.d_Meal_dishes P_Meal_dishes (spMDishes K A.a_Meal) := ok_mdishes T
  have G_is_running : FnOk P w K mg base CX0 1 A.a_is_running A.d_is_running P_is_running (spRuns A.a_Course) := ok_runs T
  have G_Overdue___init__ : FnOk P w K mg base CX0 2 A.a_Overdue___init__ A.d_Overdue___init__ P_Overdue___init__ (spNDI K 1 A.a_Overdue) := ok_ovi T 1
  refine T.f_gone.okX sc_gone (fun vs H Q E h => ?_) (fun cdv A' outer s H vs Q E hr h => ?_)
  · obtain ⟨c, m, b, now, mi, ss, ds, ys, lo, hi, ws, es, hk, wt, no, rfl, _⟩ := h
    rfl
  · obtain ⟨c, m, b, now, mi, ss, ds, ys, lo, hi, ws, es, hk, wt, no, rfl, m1, hC, M, B, nd, yl, sN, sl, dl, fl, mno, ⟨jo, elo, edo, lto⟩, hov, ra⟩ := h
    refine ⟨_, (pss_cons (ps_if (PW.pt (pw_or (pt_not (pt_val (pe_call G_is_integer (hr.mono (by omega)) (by rfl) T.g_is_integer T.f_is_integer.kp T.b_is_integer .nil pass0 (pa_cons (pv 1) pa_nil)))) (pw_or1 (pt_cmpR op_lt (pv 1) pe_int (nomark _)))))
 (pss_one ps_never)
 pss_nil)
 (pss_cons (ps_asg (pe_call G_started_until (hr.mono (by omega)) (by rfl) T.g_started_until T.f_started_until.kp T.b_started_until .nil pass0 (pa_cons (pv 0) (pa_cons (pe_op op_add (pe_fld (pv 0) rfl) (pv 1)) pa_nil))) (pg_tup (by rfl) (pgs_cons (pg_name (i := 2) sc_gone.nd rfl (Or.inl rfl)) (pgs_cons (pg_name (i := 3) sc_gone.nd rfl (Or.inl rfl)) pgs_nil))))
 (pss_cons (ps_set (i := 4) sc_gone.nd rfl (Or.inl rfl) (pe_meth0 (pe_fld (pv 2) rfl) T.cl_M T.m_dishes G_Meal_dishes (hr.mono (by omega)) T.b_Meal_dishes .nil pass0))
 (pss_cons (ps_lock (ps_for (passes_of rfl) rfl (pi_keys (pv 4)) (pg_name (i := 5) sc_gone.nd rfl (Or.inl rfl))
 (pss_one (ps_if (PW.pt (pw_and (pt_val (pe_call G_is_running (hr.mono (by omega)) (by rfl) T.g_is_running T.f_is_running.kp T.b_is_running .nil pass0 (pa_cons (pv 2) (pa_cons (pv 5) pa_nil)))) (pw_and1 (pt_cmpR op_gt (pe_op op_sub (pe_fld (pv 2) rfl) (pe_dget (hu_of hr) (pe_fld (pv 2) rfl) (pv 5) (fun _ _ => rfl))) (pe_ix ix_tup (pe_dget (hu_of hr) (pv 4) (pv 5) (fun _ _ => rfl)) pe_int (fun _ _ => rfl)) (nomark _)))))
 (pss_one (ps_raise rfl (Own.takes_unlock (takes_of rfl rfl rfl rfl)) (pmk_oex T.xOv T.iOv T.tOv G_Overdue___init__ (hr.mono (by omega)) T.b_Overdue___init__ .nil pass0 (by rfl) T.g_Overdue (pa_cons (pv 5) pa_nil))))
 pss_nil))))
 (PSs.nox (pss_one (ps_ret (pe_tup (pa_cons (pv 2) (pa_cons (pv 3) pa_nil)))))))))), ?_⟩
    obtain ⟨dx, qs, qd, hc, hs, hd⟩ := id hC
    refine ⟨_, rfl, .int mi, .int mi, rfl, .int _, ?_⟩
    refine ⟨true, rfl, iteF ⟨_, rfl, _, _, rfl, rfl, _, rfl, ite2 (fun c1 => absurd (of_decide_eq_true c1) (by omega)) (fun _ => ?_)⟩⟩
    obtain ⟨dxm, qb, qw, qp, kvm, wv, ps, hp, _⟩ := id M.ex
    refine ⟨_, rfl, _, rfl, c, A.a_Course, dx, _, _, rfl, hc, T.cl_Co, T.nCoP, rfl, _, rfl, _, _, rfl, rfl, c, m, b, now, now + mi, ss, ds, ys, hk, wt, rfl, hC, B, nd, yl, sN, sl, dl, fl, fun t c' l H1 s1 nl ht hC' hl => ?_⟩
    refine ⟨t, _, rfl, SqT.of ht, rfl, _, _, rfl, _, _, rfl, rfl, ?_⟩
    dsimp only [List.set]
    obtain ⟨dxc, qs', qd', hc', hs', hd'⟩ := id hC'
    refine ⟨_, rfl, c', A.a_Course, dxc, _, _, rfl, hc', T.cl_Co, T.nCoD, rfl, m, dxm, _, rfl, s1 _ _ hp, rfl, m, ys, lo, hi, ws, es, rfl, M.up s1, fun l2 H2 kvs nl2 s2 hl2 hP => ?_⟩
    refine ⟨l2, _, hl2, trivial, fun od => ?_⟩
    have s3 : Same H1 (upd H2 l2 (.frz od (.dK kvs))) := fun b u e => by rw [upd_ne (ne_of_none e nl2)]; exact s2 _ _ e
    have hX := upd_same (H := H2) (a := l2) (o := .frz od (.dK kvs))
    have PX : Pr2 K (upd H2 l2 (.frz od (.dK kvs))) ys (fun n => .int (lo n)) (fun n => .int (hi n)) kvs := hP.set hl2 (noTup_dK _)
    refine ⟨_, rfl, l2, od, rfl, .inl ⟨kvs, hX, for_it walk_keys (fun i σ' H' => no ∉ ys.take i ∧ ∃ u, σ' = [some (.ref c), some (.int mi), some (.ref c'), some (.ref l), some (.ref l2), u] ∧ Same (upd H2 l2 (.frz od (.dK kvs))) H')
      ⟨(fun m => nomatch m), _, rfl, Same.refl _⟩ (fun i σ' H' _ ⟨_, _, _, e⟩ => e _ _ hX) ?_ (fun σ' H' z => ?_)⟩⟩
    · rintro i x σ' H' H'' hi0 ⟨hno, u, rfl, s4⟩ ⟨rfl, key, v, hkv, rfl⟩
      obtain ⟨hi1, a, rfl, rfl, hq⟩ := PX.get hkv
      have hm := List.getElem_mem hi1
      have S4 := s3.trans s4
      have nxt : ys[i] ≠ no → no ∉ ys.take (i + 1) := fun ne m => by
        rw [List.take_succ, List.getElem?_eq_getElem hi1] at m
        rcases List.mem_append.mp m with m | m
        · exact hno m
        · exact ne (List.mem_singleton.mp m).symm
      refine ⟨_, rfl, _, rfl, c', m, b, now + mi, _, ds, ys[i], rfl, hC'.up S4, ?_⟩
      cases el : look (ss ++ freshL hk wt ss ds (now + mi) ys) ys[i] with
      | none => exact ⟨false, rfl, iteF ⟨nxt (fun e => by rw [e, elo] at el; cases el), _, rfl, s4⟩⟩
      | some j =>
        cases ed : look ds ys[i] with
        | some j2 => exact ⟨false, rfl, iteF ⟨nxt (fun e => by rw [e, edo] at ed; cases ed), _, rfl, s4⟩⟩
        | none =>
          obtain ⟨a2, hv, hq2⟩ := PX.val nd hm
          have vs : valV (kvI (ss ++ freshL hk wt ss ds (now + mi) ys)) (.inr ys[i]) = some (.int j) := by rw [val_kvI, el]; rfl
          refine ⟨true, rfl, iteT ?_⟩
          refine ⟨_, rfl, c', A.a_Course, dxc, _, _, rfl, S4 _ _ hc', T.cl_Co, T.nCoP, rfl, _, rfl, c', A.a_Course, dxc, _, _, rfl, S4 _ _ hc', T.cl_Co, T.nCoS, rfl, _, rfl, qs', .int j, rfl, .inl ⟨_, .inr ys[i], .inl (S4 _ _ hs'), rfl, vs.symm⟩, _, _, rfl, rfl, ?_⟩
          refine ⟨_, rfl, _, rfl, l2, .ref a2, rfl, .inl ⟨_, .inr ys[i], .inr ⟨od, s4 _ _ hX⟩, rfl, hv.symm⟩, _, _, _, _, rfl, rfl, stUp hq2 s4, rfl, _, _, rfl, rfl, _, rfl, ite2 (fun c1 => ?_) (fun c1 => ?_)⟩
          · have e := hov _ hm j el ed (of_decide_eq_true c1)
            have nl0 : H l2 = none := s1.free nl2
            refine ⟨_, rfl, by show 1 ≤ 1000; decide, fun a na => ⟨a, _, H'', rfl, upd_same, na, exc_pre na (Same.refl _) (.inl ⟨.str _, .str _, by simp [PyData.depth], rfl⟩), fun y Hc dd s5 h1 h2 h3 => ⟨rfl, dd, _, exc_fin (E := fun cls d H' => ∃ p od u, H' p = some (.frz od u) ∧ (∀ (o' : Obj) (u' : HO), H p ≠ some (.frz o' u')) ∧ E cls d (upd H' p u)) na s5 h1 h2 h3 (fun y dd H9 s9 hdd sd => ?_) _ rfl⟩⟩⟩
            have h9 := s9 _ _ (s4 _ _ hX)
            refine ⟨l2, od, .dK kvs, h9, (fun o' u' z => by rw [nl0] at z; cases z), ra y dd _ (fun b u q => ?_) ?_ (by rw [← e]; exact sd_str sd)⟩
            · rw [upd_ne (ne_of_none q nl0)]; exact s9 _ _ (S4 _ _ (s1 _ _ q))
            · rw [upd_ne fun z => by rw [z, h9] at hdd; cases hdd]; exact hdd
          · refine ⟨nxt fun e => ?_, _, rfl, s4⟩
            rw [e, elo] at el
            cases el
            have := of_decide_eq_false (eq_false_of_ne_true c1)
            rw [e] at this
            exact this lto
    · obtain ⟨hno, _⟩ := z
      rw [hP.len, List.take_length] at hno
      exact absurd mno hno
end
end K5
set_option Elab.async false
set_option linter.all false
set_option maxRecDepth 100000
set_option maxHeartbeats 4000000
namespace K5
open PySem L2
local macro_rules | `(tactic| walk_at "rd1") => `(tactic| first
  | refine ⟨_, _, rfl, rfl, ?_⟩
  | refine ⟨_, _, _, _, rfl, rfl, SqL.of (by assumption), rfl, ?_⟩
  | refine ⟨_, _, _, _, rfl, rfl, (by assumption), rfl, ?_⟩
  | refine .inl ⟨_, rfl, ?_⟩
  | refine ⟨_, rfl, ?_⟩
  | refine ⟨(by unfold CMul; omega), ?_⟩
  | refine ⟨(by unfold CPow; omega), ?_⟩
  | refine ⟨(by (try dsimp only); omega), ?_⟩
  | refine ⟨(by unfold CDiv; omega), ?_⟩
  | fail "rd1")
local macro_rules | `(tactic| walk_at "rd") => `(tactic| repeat' (walk_at "rd1"))
open Own
section
variable {P : Program} {w : World} {K : PySem.W.Frag} {mg : Str → Option Value} {base : Heap} {A : Ad}
theorem put_kvI {l : List (Str × Int)} {n : Str} {i : Int} (h : look l n = none) : putK (kvI l) (.inr n) (.int i) = kvI (l ++ [(n, i)]) := by
  rw [putK_new _ (by rw [val_kvI, h]; rfl), ← kvI_app]
  rfl
def spCalled (K : PySem.W.Frag) (CM CC CB : Addr) : Sp := fun vs H Q _ => ∃ (c m b : Addr) (now : Int) (ss ds : List (Str × Int)) (ys : List Str) (lo hi : Str → Int) (ws es : List PyData) (hk : Str → Str) (wt : Str → Int) (n : Str) (i : Int), vs = [.ref c, .str n] ∧ CoF CC H c now m b ss ds ∧ MlAt K CM H m ys lo hi ws es ∧ BkAt CB H b ys hk wt ∧ ys.Nodup ∧ ys.length < 64 ∧ (ss.map (·.1)).Nodup ∧ ss.length ≤ 900 ∧ ds.length ≤ 800 ∧ (ds.map (·.1)).Nodup ∧ n ∈ ys ∧ look ss n = some i ∧ look ds n = none ∧ lo n ≤ now - i ∧ (freshL hk wt ss (ds ++ [(n, now)]) now ys).length ≤ 1 ∧
  ∀ t c' l H', Same H H' → H l = none → H' t = some (.tup [.ref c', .ref l]) → CoF CC H' c' now m b (ss ++ freshL hk wt ss (ds ++ [(n, now)]) now ys) (ds ++ [(n, now)]) → H' l = some (.lst ((freshL hk wt ss (ds ++ [(n, now)]) now ys).map fun r => .str r.1)) → Q (.ref t) H'
theorem ok_called (T : Txt K mg A) : FnOk P w K mg base CX0 7 A.a_called A.d_called P_called (spCalled K A.a_Meal A.a_Course A.a_Book) := by
  have G_check_dish : FnOk P w K mg base CX0 2 A.a_check_dish A.d_check_dish P_check_dish (spChkDishP K) := ok_chkdishP T
  have G_started_until : FnOk P w K mg base CX0 6 A.a_started_until A.d_started_until P_started_until (spStart K A.a_Course A.a_Book) := ok_start T
  have G_Meal_dishes : FnOk P w K mg base CX0 1 A.a_Meal_dishes A.d_Meal_dishes P_Meal_dishes (spMDishes K A.a_Meal) := ok_mdishes T
  have G_is_running : FnOk P w K mg base CX0 1 A.a_is_running A.d_is_running P_is_running (spRuns A.a_Course) := ok_runs T
  have G_Course___init__ : FnOk P w K mg base CX0 1 A.a_Course___init__ A.d_Course___init__ P_Course___init__ (spCoInit A.a_Course) := ok_coinit T
  refine T.f_called.ok sc_called (fun vs H Q E h => ?_) (fun cdv A' outer s H vs Q E hr h => ?_)
  · obtain ⟨c, m, b, now, ss, ds, ys, lo, hi, ws, es, hk, wt, n, i, rfl, _⟩ := h
    rfl
  · obtain ⟨c, m, b, now, ss, ds, ys, lo, hi, ws, es, hk, wt, n, i, rfl, hC, M, B, nd, yl, sN, sl, dl, dN, mn, els, eld, le, fl, k⟩ := h
    refine ⟨_, (pss_cons (ps_set (i := 2) sc_called.nd rfl (Or.inl rfl) (pe_meth0 (pe_fld (pv 0) rfl) T.cl_M T.m_dishes G_Meal_dishes (hr.mono (by omega)) T.b_Meal_dishes .nil pass0))
 (pss_cons (ps_expr (pe_call G_check_dish (hr.mono (by omega)) (by rfl) T.g_check_dish T.f_check_dish.kp T.b_check_dish .nil pass0 (pa_cons (pv 1) (pa_cons (pv 2) pa_nil))))
 (pss_cons (ps_if (pt_not (pt_val (pe_call G_is_running (hr.mono (by omega)) (by rfl) T.g_is_running T.f_is_running.kp T.b_is_running .nil pass0 (pa_cons (pv 0) (pa_cons (pv 1) pa_nil)))))
 (pss_one ps_never)
 pss_nil)
 (pss_cons (ps_if (pt_cmpR op_lt (pe_op op_sub (pe_fld (pv 0) rfl) (pe_dget (hu_of hr) (pe_fld (pv 0) rfl) (pv 1) (fun _ _ => rfl))) (pe_ix ix_tup (pe_dget (hu_of hr) (pv 2) (pv 1) (fun _ _ => rfl)) pe_int (fun _ _ => rfl)) (nomark _))
 (pss_one ps_never)
 pss_nil)
 (pss_cons (ps_set (i := 3) sc_called.nd rfl (Or.inl rfl) (Own.pe_merge1 (pe_fld (pv 0) rfl) (pv 1) (pe_fld (pv 0) rfl)))
 (pss_cons (ps_asg (pe_call G_started_until (hr.mono (by omega)) (by rfl) T.g_started_until T.f_started_until.kp T.b_started_until .nil pass0 (pa_cons (pe_make T.mkCo G_Course___init__ (hr.mono (by omega)) (by rfl) T.g_Course T.b_Course___init__ .nil pass0 (pa_cons (pe_fld (pv 0) rfl) (pa_cons (pe_fld (pv 0) rfl) (pa_cons (pe_fld (pv 0) rfl) (pa_cons (pe_fld (pv 0) rfl) (pa_cons (pv 3) pa_nil)))))) (pa_cons (pe_fld (pv 0) rfl) pa_nil))) (pg_tup (by rfl) (pgs_cons (pg_name (i := 4) sc_called.nd rfl (Or.inl rfl)) (pgs_cons (pg_name (i := 5) sc_called.nd rfl (Or.inl rfl)) pgs_nil))))
 (pss_one (ps_ret (pe_tup (pa_cons (pv 4) (pa_cons (pe_lc (own := [("minute", 6), ("dish", 7)]) (g := gTup K 2 (gCons (gName 6) (gCons (gName 7) gNil))) (by rfl) sc_called.nd (pi_list (pv 5)) (blkOk_by (N := N_called) (sc := defScope s_called) (by decide +kernel)) (fun _ _ _ _ _ => (pg_tup rfl (pgs_cons (pg_name (i := 6) sc_called.nd rfl (Or.inl rfl)) (pgs_cons (pg_name (i := 7) sc_called.nd rfl (Or.inl rfl)) pgs_nil)))) (fun _ _ _ _ _ => pts_nil) (fun _ _ _ _ _ => (pv 7))) pa_nil))))))))))), ?_⟩
    obtain ⟨dx, qs, qd, hc, hs, hd⟩ := id hC
    obtain ⟨dxm, qb, qw, qp, kvm, wv, ps, hp, _⟩ := id M.ex
    refine ⟨_, rfl, c, A.a_Course, dx, _, _, rfl, hc, T.cl_Co, T.nCoD, rfl, m, dxm, _, rfl, hp, rfl, m, ys, lo, hi, ws, es, rfl, M, fun l2 H1 kvs nl2 s1 hl2 hP => ?_⟩
    obtain ⟨a2, hv, hq2⟩ := hP.val nd mn
    refine ⟨_, rfl, _, rfl, n, l2, kvs, rfl, .inl hl2, by rw [hv]; rfl, ?_⟩
    refine ⟨_, rfl, _, rfl, c, m, b, now, ss, ds, n, rfl, hC.up s1, ?_⟩
    rw [els, eld]
    refine ⟨true, rfl, iteF ?_⟩
    have vs : valV (kvI ss) (.inr n) = some (.int i) := by rw [val_kvI, els]; rfl
    refine ⟨_, rfl, c, A.a_Course, dx, _, _, rfl, s1 _ _ hc, T.cl_Co, T.nCoP, rfl, _, rfl, c, A.a_Course, dx, _, _, rfl, s1 _ _ hc, T.cl_Co, T.nCoS, rfl, _, rfl, qs, .int i, rfl, .inl ⟨_, .inr n, .inl (s1 _ _ hs), rfl, vs.symm⟩, _, _, rfl, rfl, ?_⟩
    refine ⟨_, rfl, _, rfl, l2, .ref a2, rfl, .inl ⟨_, .inr n, .inl hl2, rfl, hv.symm⟩, _, _, _, _, rfl, rfl, hq2, rfl, _, _, rfl, rfl, _, rfl, ite2 (fun c1 => absurd (of_decide_eq_true c1) (by omega)) (fun _ => ?_)⟩
    -- dones
    have hc1 := s1 _ _ hc
    have hs1 := s1 _ _ hs
    have hd1 := s1 _ _ hd
    have B1 := B.up s1
    have em : mergeK [] (kvI ds) = kvI ds := by rw [merge_all (kvI ds) [] (by rw [List.nil_append, kvI_keys]; exact inr_nd dN), List.nil_append]
    refine fun D nD => ⟨_, rfl, c, A.a_Course, dx, _, _, rfl, Same.new nD _ _ hc1, T.cl_Co, T.nCoE, rfl, qd, kvI ds, rfl, upd_same, .inl (Same.new nD _ _ hd1), (ne_of_none hd1 nD).symm, by rw [kvI_len]; omega, ?_⟩
    rw [em, upd_upd]
    refine fun q nq => ?_
    have nDq : D ≠ q := ne_of_none upd_same nq
    have nq1 : H1 q = none := (Same.new nD).free nq
    have S2 : Same H1 (upd (upd H1 D (.dK (kvI ds))) q (.dK [])) := (Same.new nD).trans (Same.new nq)
    refine ⟨_, rfl, _, rfl, c, A.a_Course, dx, _, _, rfl, S2 _ _ hc1, T.cl_Co, T.nCoP, rfl, upd_same, by rw [upd_ne nDq, upd_same], nDq, .inr n, rfl, ?_⟩
    rw [put_kvI eld]
    have S3 : Same H1 (upd (upd (upd (upd H1 D (.dK (kvI ds))) q (.dK [])) q (.dK [(.inr n, .int now)])) D (.dK (kvI (ds ++ [(n, now)])))) := fun b u e => by
      rw [upd_ne (ne_of_none e nD), upd_ne (ne_of_none e nq1)]; exact S2 _ _ e
    have hD3 : upd (upd (upd (upd H1 D (.dK (kvI ds))) q (.dK [])) q (.dK [(.inr n, .int now)])) D (.dK (kvI (ds ++ [(n, now)]))) D = some (.dK (kvI (ds ++ [(n, now)]))) := upd_same
    refine cast_heap (b := upd (upd (upd (upd H1 D (.dK (kvI ds))) q (.dK [])) q (.dK [(.inr n, .int now)])) D (.dK (kvI (ds ++ [(n, now)])))) rfl ?_
    generalize upd (upd (upd (upd H1 D (.dK (kvI ds))) q (.dK [])) q (.dK [(.inr n, .int now)])) D (.dK (kvI (ds ++ [(n, now)]))) = H3 at S3 hD3 ⊢
    dsimp only [List.set]
    have hc3 := S3 _ _ hc1
    refine ⟨_, rfl, c, A.a_Course, dx, _, _, rfl, hc3, T.cl_Co, T.nCoP, rfl, _, rfl, c, A.a_Course, dx, _, _, rfl, hc3, T.cl_Co, T.nCoD, rfl, _, rfl, c, A.a_Course, dx, _, _, rfl, hc3, T.cl_Co, T.nCoB, rfl, _, rfl, c, A.a_Course, dx, _, _, rfl, hc3, T.cl_Co, T.nCoS, rfl, _, rfl, mk_course (S3 _ _ hs1) hD3 fun c2 H4 nc2 s4 hC2 => ?_⟩
    refine ⟨_, rfl, c, A.a_Course, dx, _, _, rfl, s4 _ _ hc3, T.cl_Co, T.nCoP, rfl, c2, m, b, now, now, ss, ds ++ [(n, now)], ys, hk, wt, rfl, hC2, (B1.up S3).up s4, nd, yl, sN, sl, by rw [List.length_append]; simp; omega, fl, fun t c' l H5 s5 _ ht hC' hl => ?_⟩
    refine ⟨t, _, rfl, SqT.of ht, rfl, _, _, rfl, _, _, rfl, rfl, ?_⟩
    have S5 : Same H H5 := ((s1.trans S3).trans s4).trans s5
    clear S3 S2 s4 s5 s1 hD3 nq nD
    obtain ⟨bs, hl1, hR⟩ := hl
    have bl : bs.length ≤ 1 := by rw [hR.length]; exact fl
    generalize freshL hk wt ss (ds ++ [(n, now)]) now ys = fr at fl hC' hR k
    refine ⟨_, rfl, _, rfl, l, rfl, ⟨_, SqL.of hl1⟩, fun D2 nD2 => lc_it walk_list (fun i H' => Same H5 H' ∧ H' D2 = some (.lst ((fr.take i).map fun r => .str r.1))) ⟨Same.new nD2, upd_same⟩ (fun i H' _ z => SqL.of (z.1 _ _ hl1)) ?_ (fun H6 z => ?_)⟩
    · rintro i x H' H'' hi0 ⟨s7, hD⟩ ⟨rfl, hx⟩
      rw [List.getElem?_map] at hx
      obtain ⟨bb, hb1, rfl⟩ := Option.map_eq_some_iff.mp hx
      obtain ⟨r, hr1, hq⟩ := paired_at hR hb1
      have hq := stUp hq s7
      rw [List.length_map] at hi0
      have et : fr.take (i + 1) = fr.take i ++ [r] := by rw [List.take_succ, hr1]; rfl
      refine ⟨bb, _, rfl, hq, rfl, _, _, rfl, _, _, rfl, rfl, rfl, _, rfl, _, hD, by rw [List.length_map]; exact Nat.lt_of_le_of_lt (show (fr.take i).length ≤ 64 by rw [List.length_take]; omega) (by decide), fun c u e => by rw [upd_ne (ne_of_none e nD2)]; exact s7 _ _ e, ?_⟩
      rw [upd_same, et, List.map_append]
      rfl
    obtain ⟨s7, hD⟩ := z
    rw [List.length_map, hR.length, List.take_length] at hD
    refine ⟨by show 2 ≤ sizeLine; decide, fun t2 nt2 => k t2 c' D2 _ ((S5.trans s7).trans (Same.new nt2)) (S5.free nD2) upd_same ((hC'.up s7).up (Same.new nt2)) (Same.new nt2 _ _ hD)⟩
def spCalledX (K : PySem.W.Frag) (CM CC CO : Addr) : Sp := fun vs H _ E => ∃ (c m b : Addr) (now : Int) (ss ds : List (Str × Int)) (ys : List Str) (lo hi : Str → Int) (ws es : List PyData) (n : Str) (i : Int), vs = [.ref c, .str n] ∧ CoF CC H c now m b ss ds ∧ MlAt K CM H m ys lo hi ws es ∧ ys.Nodup ∧ n ∈ ys ∧ look ss n = some i ∧ look ds n = none ∧ now - i < lo n ∧ RaN CO n H E
theorem ok_calledX (T : Txt K mg A) : FnOk P w K mg base (L2.CX P w) 7 A.a_called A.d_called P_called (spCalledX K A.a_Meal A.a_Course A.a_TooSoon) := by
  have G_check_dish : FnOk P w K mg base CX0 2 A.a_check_dish A.d_check_dish P_check_dish (spChkDishP K) := ok_chkdishP T
  have G_Meal_dishes : FnOk P w K mg base CX0 1 A.a_Meal_dishes A.d_Meal_dishes P_Meal_dishes (spMDishes K A.a_Meal) := ok_mdishes T
  have G_is_running : FnOk P w K mg base CX0 1 A.a_is_running A.d_is_running P_is_running (spRuns A.a_Course) := ok_runs T
  have G_TooSoon___init__ : FnOk P w K mg base CX0 2 A.a_TooSoon___init__ A.d_TooSoon___init__ P_TooSoon___init__ (spNDI K 1 A.a_TooSoon) := ok_tsi T 1
  refine T.f_called.okX sc_called (fun vs H Q E h => ?_) (fun cdv A' outer s H vs Q E hr h => ?_)
  · obtain ⟨c, m, b, now, ss, ds, ys, lo, hi, ws, es, n, i, rfl, _⟩ := h
    rfl
  · obtain ⟨c, m, b, now, ss, ds, ys, lo, hi, ws, es, n, i, rfl, hC, M, nd, mn, els, eld, lt, ra⟩ := h
    refine ⟨_, (pss_cons (ps_set (i := 2) sc_called.nd rfl (Or.inl rfl) (pe_meth0 (pe_fld (pv 0) rfl) T.cl_M T.m_dishes G_Meal_dishes (hr.mono (by omega)) T.b_Meal_dishes .nil pass0))
 (pss_cons (ps_expr (pe_call G_check_dish (hr.mono (by omega)) (by rfl) T.g_check_dish T.f_check_dish.kp T.b_check_dish .nil pass0 (pa_cons (pv 1) (pa_cons (pv 2) pa_nil))))
 (pss_cons (ps_if (pt_not (pt_val (pe_call G_is_running (hr.mono (by omega)) (by rfl) T.g_is_running T.f_is_running.kp T.b_is_running .nil pass0 (pa_cons (pv 0) (pa_cons (pv 1) pa_nil)))))
 (pss_one ps_never)
 pss_nil)
 (pss_cons (ps_if (pt_cmpR op_lt (pe_op op_sub (pe_fld (pv 0) rfl) (pe_dget (hu_of hr) (pe_fld (pv 0) rfl) (pv 1) (fun _ _ => rfl))) (pe_ix ix_tup (pe_dget (hu_of hr) (pv 2) (pv 1) (fun _ _ => rfl)) pe_int (fun _ _ => rfl)) (nomark _))
 (pss_one (ps_raise rfl (takes_of rfl rfl rfl rfl) (pmk_oex T.xTs T.iTs T.tTs G_TooSoon___init__ (hr.mono (by omega)) T.b_TooSoon___init__ .nil pass0 (by rfl) T.g_TooSoon (pa_cons (pv 1) pa_nil))))
 pss_nil)
 pss_never)))), ?_⟩
    obtain ⟨dx, qs, qd, hc, hs, hd⟩ := id hC
    obtain ⟨dxm, qb, qw, qp, kvm, wv, ps, hp, _⟩ := id M.ex
    refine ⟨_, rfl, c, A.a_Course, dx, _, _, rfl, hc, T.cl_Co, T.nCoD, rfl, m, dxm, _, rfl, hp, rfl, m, ys, lo, hi, ws, es, rfl, M, fun l2 H1 kvs nl2 s1 hl2 hP => ?_⟩
    obtain ⟨a2, hv, hq2⟩ := hP.val nd mn
    refine ⟨_, rfl, _, rfl, n, l2, kvs, rfl, .inl hl2, by rw [hv]; rfl, ?_⟩
    refine ⟨_, rfl, _, rfl, c, m, b, now, ss, ds, n, rfl, hC.up s1, ?_⟩
    rw [els, eld]
    refine ⟨true, rfl, iteF ?_⟩
    have vs : valV (kvI ss) (.inr n) = some (.int i) := by rw [val_kvI, els]; rfl
    refine ⟨_, rfl, c, A.a_Course, dx, _, _, rfl, s1 _ _ hc, T.cl_Co, T.nCoP, rfl, _, rfl, c, A.a_Course, dx, _, _, rfl, s1 _ _ hc, T.cl_Co, T.nCoS, rfl, _, rfl, qs, .int i, rfl, .inl ⟨_, .inr n, .inl (s1 _ _ hs), rfl, vs.symm⟩, _, _, rfl, rfl, ?_⟩
    refine ⟨_, rfl, _, rfl, l2, .ref a2, rfl, .inl ⟨_, .inr n, .inl hl2, rfl, hv.symm⟩, _, _, _, _, rfl, rfl, hq2, rfl, _, _, rfl, rfl, _, rfl, ite2 (fun _ => ?_) (fun c1 => absurd lt (of_decide_eq_false (eq_false_of_ne_true c1)))⟩
    exact ⟨_, rfl, by show 1 ≤ 1000; decide, fun a na => ⟨a, _, H1, rfl, upd_same, na, exc_pre na (Same.refl _) (.inl ⟨.str _, .str _, by simp [PyData.depth], rfl⟩), fun y Hc dd s5 h1 h2 h3 => ⟨rfl, dd, _, exc_fin na s5 h1 h2 h3 (fun y dd H9 s9 hdd sd => ra y dd H9 (s1.trans s9) hdd (sd_str sd)) _ rfl⟩⟩⟩
/-- the start of a row on the clock is an entry, whatever the rows -/
def spEntryC (K : PySem.W.Frag) : Sp := fun vs H Q _ => ∃ (a : Addr) (x : V) (i : Int), vs = [.ref a, x] ∧ SqT K H a [.str "clock", .int i] ∧ 0 ≤ i ∧ ∀ H', Same H H' → Q (.bl true) H'
def spHookC : Sp := fun vs H Q _ => ∃ x : V, vs = [.str "clock", x] ∧ Q (.bl true) H
theorem ok_hookC (T : Txt K mg A) : FnOk P w K mg base CX0 2 A.a_is_hook A.d_is_hook P_is_hook spHookC := by
  have G_alike : FnOk P w K mg base CX0 1 A.a_alike A.d_alike P_alike (fun _ _ _ _ => False) := no_fn fun _ _ _ _ h => h
  refine T.f_is_hook.ok sc_is_hook (fun vs H Q E h => ?_) (fun cdv A' outer s H vs Q E hr h => ?_)
  · obtain ⟨x, rfl, _⟩ := h
    rfl
  · obtain ⟨x, rfl, k⟩ := h
    refine ⟨_, (pss_one (ps_ret (pe_or (pe_cmpR op_eq (pv 0) (pe_glob (v := .str "clock") (by rfl) T.g_CLOCK.choose_spec ⟨_, rfl⟩) (nomark _)) (pe_one (pe_callB (cr_any rfl) (by rfl) T.any (by decide +kernel) (pa_cons (pe_lc (own := [("key", 2)]) (g := gName 2) (by rfl) sc_is_hook.nd (pi_keys (pv 1)) (blkOk_by (N := N_is_hook) (sc := defScope s_is_hook) (by decide +kernel)) (fun _ _ _ _ _ => pg_name (i := 2) sc_is_hook.nd rfl (Or.inl rfl)) (fun _ _ _ _ _ => pts_nil) (fun _ _ _ _ _ => (pe_call G_alike (hr.mono (by omega)) (by rfl) T.g_alike T.f_alike.kp T.b_alike .nil pass0 (pa_cons (pv 0) (pa_cons (pv 2) pa_nil))))) pa_nil)))))), ?_⟩
    exact ⟨_, rfl, rfl, _, rfl, ite2 (fun _ => k) (fun q => absurd (by decide +kernel) q)⟩
theorem ok_entryC (T : Txt K mg A) : FnOk P w K mg base CX0 3 A.a_is_entry A.d_is_entry P_is_entry (spEntryC K) := by
  have G_is_list : FnOk P w K mg base CX0 1 A.a_is_list A.d_is_list P_is_list (spIsList K) := ok_islist T
  have G_is_hook : FnOk P w K mg base CX0 2 A.a_is_hook A.d_is_hook P_is_hook spHookC := ok_hookC T
  have G_is_wait : FnOk P w K mg base CX0 2 A.a_is_wait A.d_is_wait P_is_wait (spIsWait K) := ok_iswait T
  refine T.f_is_entry.ok sc_is_entry (fun vs H Q E h => ?_) (fun cdv A' outer s H vs Q E hr h => ?_)
  · obtain ⟨a, x, i, rfl, _⟩ := h
    rfl
  · obtain ⟨a, x, i, rfl, ha, h0, k⟩ := h
    refine ⟨_, (pss_cons (ps_if (PW.pt (pw_or (pt_not (pt_val (pe_call G_is_list (hr.mono (by omega)) (by rfl) T.g_is_list T.f_is_list.kp T.b_is_list .nil pass0 (pa_cons (pv 0) pa_nil)))) (pw_or1 (pt_cmpR op_ne (pe_callB call_len_seq (by rfl) T.len PySem.boot_len (pa_cons (pv 0) pa_nil)) pe_int (nomark _)))))
 (pss_one (ps_ret pe_bl))
 pss_nil)
 (pss_cons (ps_asg (pv 0) (pg_tup (by rfl) (pgs_cons (pg_name (i := 2) sc_is_entry.nd rfl (Or.inl rfl)) (pgs_cons (pg_name (i := 3) sc_is_entry.nd rfl (Or.inl rfl)) pgs_nil))))
 (pss_one (ps_ret (pe_and (pe_call G_is_hook (hr.mono (by omega)) (by rfl) T.g_is_hook T.f_is_hook.kp T.b_is_hook .nil pass0 (pa_cons (pv 2) (pa_cons (pv 1) pa_nil))) (pe_one (pe_call G_is_wait (hr.mono (by omega)) (by rfl) T.g_is_wait T.f_is_wait.kp T.b_is_wait .nil pass0 (pa_cons (pv 3) pa_nil)))))))), ?_⟩
    refine ⟨_, rfl, .ref a, .tuple [.str "clock", .int i], rfl, .tup ha (.cons (.str _) (.cons (.int i) .nil)), fun H1 s1 => ⟨_, rfl, iteF ?_⟩⟩
    have ha1 := stUp ha s1
    refine ⟨_, rfl, a, _, rfl, .inr ha1, rfl, _, rfl, iteF ?_⟩
    refine ⟨_, rfl, a, _, rfl, ha1, rfl, _, _, rfl, _, _, rfl, rfl, ?_⟩
    exact ⟨_, rfl, _, rfl, x, rfl, ⟨_, rfl, iteT ⟨_, rfl, i, rfl, h0, k _ s1⟩⟩⟩
end
end K5
set_option Elab.async false
set_option linter.all false
set_option maxRecDepth 100000
set_option maxHeartbeats 4000000
namespace K5
open PySem L2
local macro_rules | `(tactic| walk_at "rd1") => `(tactic| first
  | refine ⟨_, _, rfl, rfl, ?_⟩
  | refine ⟨_, _, _, _, rfl, rfl, SqL.of (by assumption), rfl, ?_⟩
  | refine ⟨_, _, _, _, rfl, rfl, (by assumption), rfl, ?_⟩
  | refine .inl ⟨_, rfl, ?_⟩
  | refine ⟨_, rfl, ?_⟩
  | refine ⟨(by unfold CMul; omega), ?_⟩
  | refine ⟨(by unfold CPow; omega), ?_⟩
  | refine ⟨(by (try dsimp only); omega), ?_⟩
  | refine ⟨(by unfold CDiv; omega), ?_⟩
  | fail "rd1")
local macro_rules | `(tactic| walk_at "rd") => `(tactic| repeat' (walk_at "rd1"))
open Own
section
variable {P : Program} {w : World} {K : PySem.W.Frag} {mg : Str → Option Value} {base : Heap} {A : Ad}
def spAddE (K : PySem.W.Frag) (C : Addr) : Sp := fun vs H Q _ => ∃ (p q : Addr) (ys zs : List Str) (lo hi lo2 hi2 : Str → Int), vs = [.ref p, .ref q] ∧ MlAt K C H p ys lo hi [] [] ∧ MlAt K C H q zs lo2 hi2 [] [] ∧ ys.Nodup ∧ zs.Nodup ∧ (∀ x ∈ ys, x ∉ zs) ∧ ys.length + zs.length ≤ 60 ∧ (∀ n ∈ ys, (Nm n ∧ PyData.strOk n = true) ∧ 1 ≤ lo n ∧ lo n ≤ hi n) ∧ (∀ n ∈ zs, (Nm n ∧ PyData.strOk n = true) ∧ 1 ≤ lo2 n ∧ lo2 n ≤ hi2 n) ∧
  ∀ p2 H', Same H H' → Q (.ref p2) H'
theorem Pr2.cat {H : Hp} {ns ms : List Str} {f g : Str → V} {ks ls : List (Key × V)} (h1 : Pr2 K H ns f g ks) (h2 : Pr2 K H ms f g ls) : Pr2 K H (ns ++ ms) f g (ks ++ ls) := by
  refine ⟨by rw [List.map_append, List.map_append, h1.keys, h2.keys], fun i n e => ?_⟩
  rcases Nat.lt_or_ge i ns.length with lt | ge
  · rw [List.getElem?_append_left lt] at e
    rw [List.getElem?_append_left (by rw [h1.len]; exact lt)]
    exact h1.at_ i n e
  · rw [List.getElem?_append_right ge] at e
    rw [List.getElem?_append_right (by rw [h1.len]; exact ge), h1.len]
    exact h2.at_ _ n e
def mx (ys2 : List Str) (f g : Str → Int) (n : Str) : Int := if n ∈ ys2 then g n else f n
theorem ok_addE (T : Txt K mg A) : FnOk P w K mg base CX0 7 A.a_Meal___add__ A.d_Meal___add__ P_Meal___add__ (spAddE K A.a_Meal) := by
  have G_Meal___init__ : FnOk P w K mg base CX0 5 A.a_Meal___init__ A.d_Meal___init__ P_Meal___init__ (spInit K A.a_Meal) := ok_init T
  refine T.f_Meal___add__.ok sc_Meal___add__ (fun vs H Q E h => ?_) (fun cdv A' outer s H vs Q E hr h => ?_)
  · obtain ⟨p, q, ys, zs, lo, hi, lo2, hi2, rfl, _⟩ := h
    rfl
  · obtain ⟨p, q, ys, zs, lo, hi, lo2, hi2, rfl, M, N, nd, nd2, hno, yl, hB, hB2, k⟩ := h
    obtain ⟨dx, qb, qw, qp, kvs, ws, ps, hp, hb, hP, hw, hA, hq, hZ⟩ := M.ex
    obtain ⟨dx2, qb2, qw2, qp2, kvs2, ws2, ps2, hp2, hb2, hP2, hw2, hA2, hq2, hZ2⟩ := N.ex
    cases hA
    cases hZ
    cases hA2
    cases hZ2
    refine ⟨_, (pss_cons (ps_lock (ps_for PassesOwn.never rfl (pi_keys (pe_fld (pv 0) rfl)) (pg_name (i := 2) sc_Meal___add__.nd rfl (Or.inl rfl))
 (pss_one (ps_if (pt_cmp (pc_din (hu_of hr) (pv 2) (pe_fld (pv 1) rfl)) (by rfl))
 (pss_one ps_never)
 pss_nil))))
 (pss_cons (ps_set (i := 3) sc_Meal___add__.nd rfl (Or.inl rfl) (Own.pe_merge2 (pe_fld (pv 0) rfl) (pe_fld (pv 1) rfl)))
 (pss_one (ps_ret (pe_make T.mkM G_Meal___init__ (hr.mono (by omega)) (by rfl) T.g_Meal T.b_Meal___init__ .nil pass0 (pa_cons (pv 3) (pa_cons (pe_op op_catA (pe_fld (pv 0) rfl) (pe_fld (pv 1) rfl)) (pa_cons (pe_op op_catA (pe_fld (pv 0) rfl) (pe_fld (pv 1) rfl)) pa_nil)))))))), ?_⟩
    refine ⟨qb, _, hb, trivial, fun od => ?_⟩
    have npq : p ≠ qb := fun e => by rw [e, hb] at hp; cases hp
    have nqq : q ≠ qb := fun e => by rw [e, hb] at hp2; cases hp2
    refine ⟨_, rfl, p, A.a_Meal, dx, _, .ref qb, rfl, by rw [upd_ne npq]; exact hp, T.cl_M, T.nB, by rfl, qb, od, rfl, .inl ⟨kvs, upd_same, ?_⟩⟩
    have rd2 : Rd (upd H qb (.frz od (.dK kvs))) qb2 (.dK kvs2) := by
      by_cases e : qb2 = qb
      · rw [e] at hb2 ⊢
        rw [hb] at hb2
        cases hb2
        exact .inr ⟨od, upd_same⟩
      · exact .inl (by rw [upd_ne e]; exact hb2)
    have hq2' : upd H qb (.frz od (.dK kvs)) q = some (.ins A.a_Meal dx2 [("bounds", .ref qb2), ("wished", .ref qw2), ("places", .ref qp2)]) := by rw [upd_ne nqq]; exact hp2
    refine for_it walk_keys (fun i σ' H' => ∃ u, σ' = [some (.ref p), some (.ref q), u, none] ∧ H' = upd H qb (.frz od (.dK kvs))) ⟨_, rfl, rfl⟩ (fun i σ' H' _ ⟨_, _, e⟩ => by rw [e]; exact upd_same) ?_ (fun σ' H' z => ?_)
    · rintro i x σ' H' H'' hi ⟨u, rfl, rfl⟩ ⟨rfl, key, v, hkv, rfl⟩
      obtain ⟨hi1, b2, rfl, rfl, _⟩ := hP.get hkv
      refine ⟨_, rfl, _, rfl, q, A.a_Meal, dx2, _, .ref qb2, rfl, hq2', T.cl_M, T.nB, by rfl, qb2, _, rfl, .inl ⟨kvs2, .inr ys[i], rd2, rfl, rfl⟩, ?_⟩
      rw [valV_not (by
        rw [hP2.keys]
        intro z
        obtain ⟨y, hy, e⟩ := List.mem_map.mp z
        exact hno _ (List.getElem_mem hi1) (by rw [← Sum.inr.inj e]; exact hy))]
      exact ⟨false, rfl, iteF ⟨_, rfl, rfl⟩⟩
    · obtain ⟨u, rfl, rfl⟩ := z
      refine ⟨upd_same, ?_⟩
      rw [upd_upd, show upd H qb (.dK kvs) = H from by
        funext b
        by_cases e : b = qb
        · rw [e, upd_same, hb]
        · rw [upd_ne e]]
      have nd1 : ((ys ++ zs).map (Sum.inr (α := Int))).Nodup := inr_nd (List.nodup_append.mpr ⟨nd, nd2, fun x hx y hy e => hno x hx (by rw [e]; exact hy)⟩)
      have em : mergeK [] kvs = kvs := by rw [merge_all kvs [] (by rw [List.nil_append, hP.keys]; exact inr_nd nd), List.nil_append]
      have em2 : mergeK kvs kvs2 = kvs ++ kvs2 := merge_all kvs2 kvs (by rw [List.map_append, hP.keys, hP2.keys, ← List.map_append]; exact nd1)
      have kl : kvs.length = ys.length := hP.len
      have kl2 : kvs2.length = zs.length := hP2.len
      refine fun D nD => ⟨_, rfl, p, A.a_Meal, dx, _, .ref qb, rfl, Same.new nD _ _ hp, T.cl_M, T.nB, by rfl, qb, kvs, rfl, upd_same, .inl (Same.new nD _ _ hb), (ne_of_none hb nD).symm, by omega, ?_⟩
      rw [em, upd_upd]
      refine ⟨_, rfl, q, A.a_Meal, dx2, _, .ref qb2, rfl, Same.new nD _ _ hp2, T.cl_M, T.nB, by rfl, qb2, kvs2, rfl, upd_same, .inl (Same.new nD _ _ hb2), (ne_of_none hb2 nD).symm, by omega, ?_⟩
      rw [em2, upd_upd]
      have s1 := Same.new nD (o := .dK (kvs ++ kvs2))
      have hD1 : upd H D (.dK (kvs ++ kvs2)) D = some (.dK (kvs ++ kvs2)) := upd_same
      generalize upd H D (.dK (kvs ++ kvs2)) = H1 at s1 hD1 ⊢
      have P1 : Pr2 K H1 (ys ++ zs) (fun n => .int (mx zs lo lo2 n)) (fun n => .int (mx zs hi hi2 n)) (kvs ++ kvs2) := by
        refine Pr2.cat ((hP.up s1).congr fun n m => ?_) ((hP2.up s1).congr fun n m => ?_)
        · unfold mx; rw [if_neg (hno n m), if_neg (hno n m)]; exact ⟨rfl, rfl⟩
        · unfold mx; rw [if_pos m, if_pos m]; exact ⟨rfl, rfl⟩
      have hB1 : ∀ n ∈ ys ++ zs, (Nm n ∧ PyData.strOk n = true) ∧ 1 ≤ mx zs lo lo2 n ∧ mx zs lo lo2 n ≤ mx zs hi hi2 n := fun n m => by
        rcases List.mem_append.mp m with m | m
        · unfold mx; rw [if_neg (hno n m), if_neg (hno n m)]; exact hB n m
        · unfold mx; rw [if_pos m, if_pos m]; exact hB2 n m
      have yN : (ys ++ zs).Nodup := List.nodup_append.mpr ⟨nd, nd2, fun x hx y hy e => hno x hx (by rw [e]; exact hy)⟩
      refine ⟨_, rfl, ?_⟩
      refine ⟨_, rfl, p, A.a_Meal, dx, _, .ref qw, rfl, s1 _ _ hp, T.cl_M, T.nW, by rfl, _, rfl, q, A.a_Meal, dx2, _, .ref qw2, rfl, s1 _ _ hp2, T.cl_M, T.nW, by rfl, rcatA_of (stUp hw s1) (stUp hw2 s1) (by decide) fun a3 H3 s3 q3 => ?_⟩
      have S3 := s1.trans s3
      refine ⟨_, rfl, p, A.a_Meal, dx, _, .ref qp, rfl, S3 _ _ hp, T.cl_M, T.nP, by rfl, _, rfl, q, A.a_Meal, dx2, _, .ref qp2, rfl, S3 _ _ hp2, T.cl_M, T.nP, by rfl, rcatA_of (stUp hq S3) (stUp hq2 S3) (by decide) fun a4 H4 s4 q4 => ?_⟩
      have S4 := S3.trans s4
      exact mk_meal ((s3.trans s4) _ _ hD1) (P1.up (s3.trans s4)).x yN hB1 (by rw [List.length_append]; omega) (.inr (stUp q3 s4)) .nil rfl (by decide) (fun d m => nomatch m) (.inr q4) .nil rfl (by decide) (fun d m => nomatch m) (fun p2 H6 xs np2 s6 MN xp xsr => k p2 H6 (S4.trans s6))
theorem rok_snoc {rk : Str → Nat} {ys : List Str} {hk : Str → Str} {n : Str} (O : ROk rk (rowsF ys hk)) (nn : n ∉ ys) (hn : Nm n ∧ PyData.strOk n = true) (l : ys.length < 63) : ROk (fun x => if x = n then 0 else rk x) (rowsF (ys ++ [n]) (fun x => if x = n then "clock" else hk x)) := by
  have nd : ys.Nodup := by have := O.nd; rwa [ksR_F] at this
  refine ⟨?_, fun s m => ?_, ?_, fun k h m => ?_, fun s m => ?_⟩
  · rw [ksR_F]
    exact List.nodup_append.mpr ⟨nd, by simp, fun x hx y hy e => nn (by rw [List.mem_singleton.mp hy] at e; rw [← e]; exact hx)⟩
  · rw [ksR_F] at m
    rcases List.mem_append.mp m with m | m
    · exact O.nm s (by rw [ksR_F]; exact m)
    · rw [List.mem_singleton.mp m]; exact hn
  · rw [← ksR_len, ksR_F, List.length_append]; simp; omega
  · obtain ⟨mk, eh⟩ := of_mem_F m
    by_cases e : k = n
    · rw [if_pos e] at eh; exact .inl eh
    · rw [if_neg e] at eh
      have mk' : k ∈ ys := (List.mem_append.mp mk).resolve_right fun z => e (List.mem_singleton.mp z)
      rcases O.acy k (hk k) (mem_F mk') with z | ⟨z1, z2⟩
      · exact .inl (by rw [eh, z])
      · rw [ksR_F] at z1
        have ne : hk k ≠ n := fun q => nn (by rw [← q]; exact z1)
        refine .inr ⟨by rw [ksR_F, eh]; exact List.mem_append_left _ z1, ?_⟩
        rw [eh, if_neg ne, if_neg e]
        exact z2
  · rw [ksR_F] at m
    by_cases e : s = n
    · rw [if_pos e]; decide
    · rw [if_neg e]
      exact O.rkb s (by rw [ksR_F]; exact (List.mem_append.mp m).resolve_right fun z => e (List.mem_singleton.mp z))
def spHungX (K : PySem.W.Frag) (CC CB CO : Addr) : Sp := fun vs H _ E => ∃ (c m b m2 t : Addr) (now i : Int) (ss ds : List (Str × Int)) (ys : List Str) (hk : Str → Str) (wt : Str → Int) (rk : Str → Nat) (n : Str), vs = [.ref c, .ref m2, .str n, .ref t] ∧ SqT K H t [.str "clock", .int i] ∧ CoF CC H c now m b ss ds ∧ BkAt CB H b ys hk wt ∧ ROk rk (rowsF ys hk) ∧ ys.length < 63 ∧ (∀ x ∈ ys, 0 ≤ wt x) ∧ n ∉ ys ∧ (Nm n ∧ PyData.strOk n = true) ∧ 0 ≤ i ∧ i < now ∧ RaN CO n H E
theorem ok_hungX (T : Txt K mg A) : FnOk P w K mg base (L2.CX P w) 8 A.a_hung_at A.d_hung_at P_hung_at (spHungX K A.a_Course A.a_Book A.a_TooEarly) := by
  have G_is_entry : FnOk P w K mg base CX0 3 A.a_is_entry A.d_is_entry P_is_entry (spEntryC K) := ok_entryC T
  have G_Book_rows : FnOk P w K mg base CX0 1 A.a_Book_rows A.d_Book_rows P_Book_rows (spBRows K A.a_Book) := ok_brows T
  have G_Book___init__ : FnOk P w K mg base CX0 5 A.a_Book___init__ A.d_Book___init__ P_Book___init__ (spBInit K A.a_Book) := ok_binit T
  have G_Course___init__ : FnOk P w K mg base CX0 1 A.a_Course___init__ A.d_Course___init__ P_Course___init__ (spCoInit A.a_Course) := ok_coinit T
  have G_due : FnOk P w K mg base CX0 5 A.a_due A.d_due P_due (spDue A.a_Course A.a_Book) := ok_due T
  have G_TooEarly___init__ : FnOk P w K mg base CX0 2 A.a_TooEarly___init__ A.d_TooEarly___init__ P_TooEarly___init__ (spNDI K 1 A.a_TooEarly) := ok_tei T 1
  refine T.f_hung_at.okX sc_hung_at (fun vs H Q E h => ?_) (fun cdv A' outer s H vs Q E hr h => ?_)
  · obtain ⟨c, m, b, m2, t, now, i, ss, ds, ys, hk, wt, rk, n, rfl, _⟩ := h
    rfl
  · obtain ⟨c, m, b, m2, t, now, i, ss, ds, ys, hk, wt, rk, n, rfl, ht, hC, B, O, yl, w0, nn, hn, i0, lt, ra⟩ := h
    refine ⟨_, (pss_cons (ps_if (pt_not (pt_val (pe_call G_is_entry (hr.mono (by omega)) (by rfl) T.g_is_entry T.f_is_entry.kp T.b_is_entry .nil pass0 (pa_cons (pv 3) (pa_cons (pe_fld (pv 0) rfl) pa_nil)))))
 (pss_one ps_never)
 pss_nil)
 (pss_cons (ps_set (i := 4) sc_hung_at.nd rfl (Or.inl rfl) (pe_meth0 (pe_fld (pv 0) rfl) T.cl_B T.m_rowsB G_Book_rows (hr.mono (by omega)) T.b_Book_rows .nil pass0))
 (pss_cons (ps_set (i := 5) sc_hung_at.nd rfl (Or.inl rfl) (pe_make T.mkCo G_Course___init__ (hr.mono (by omega)) (by rfl) T.g_Course T.b_Course___init__ .nil pass0 (pa_cons (pe_fld (pv 0) rfl) (pa_cons (pv 1) (pa_cons (pe_make T.mkB G_Book___init__ (hr.mono (by omega)) (by rfl) T.g_Book T.b_Book___init__ .nil pass0 (pa_cons (Own.pe_merge1 (pv 4) (pv 2) (pv 3)) pa_nil)) (pa_cons (pe_fld (pv 0) rfl) (pa_cons (pe_fld (pv 0) rfl) pa_nil)))))))
 (pss_cons (ps_set (i := 6) sc_hung_at.nd rfl (Or.inl rfl) (pe_call G_due (hr.mono (by omega)) (by rfl) T.g_due T.f_due.kp T.b_due .nil pass0 (pa_cons (pv 5) (pa_cons (pv 2) pa_nil))))
 (pss_cons (ps_if (PW.pt (pw_and (pt_cmpR op_notN (pv 6) pe_non (nomark _)) (pw_and1 (pt_cmpR op_lt (pv 6) (pe_fld (pv 0) rfl) (nomark _)))))
 (pss_one (ps_raise rfl (takes_of rfl rfl rfl rfl) (pmk_oex T.xTe T.iTe T.tTe G_TooEarly___init__ (hr.mono (by omega)) T.b_TooEarly___init__ .nil pass0 (by rfl) T.g_TooEarly (pa_cons (pv 2) pa_nil))))
 pss_nil)
 pss_never))))), ?_⟩
    obtain ⟨dx, qs, qd, hc, hs, hd⟩ := id hC
    obtain ⟨dxb, qh, qw, hb, hh, hw⟩ := id B.ex
    have nd : ys.Nodup := ROk_nd O
    refine ⟨_, rfl, _, rfl, c, A.a_Course, dx, _, _, rfl, hc, T.cl_Co, T.nCoB, rfl, t, _, i, rfl, ht, i0, fun H1 s1 => ⟨_, rfl, iteF ?_⟩⟩
    refine ⟨_, rfl, c, A.a_Course, dx, _, _, rfl, s1 _ _ hc, T.cl_Co, T.nCoB, rfl, b, dxb, _, rfl, s1 _ _ hb, rfl, b, ys, hk, wt, rfl, B.up s1, nd, by omega, fun l2 kvs H2 s2 nl2 hl2 hP => ?_⟩
    dsimp only [List.set]
    have S2 := s1.trans s2
    have hc2 := S2 _ _ hc
    have B2 := B.up S2
    have em : mergeK [] kvs = kvs := by rw [merge_all kvs [] (by rw [List.nil_append, hP.keys]; exact inr_nd nd), List.nil_append]
    have kl : kvs.length = ys.length := hP.len
    refine ⟨_, rfl, c, A.a_Course, dx, _, _, rfl, hc2, T.cl_Co, T.nCoP, rfl, _, rfl, fun D nD => ⟨_, rfl, l2, kvs, rfl, upd_same, .inl (Same.new nD _ _ hl2), (ne_of_none hl2 nD).symm, by omega, ?_⟩⟩
    rw [em, upd_upd]
    refine fun q nq => ?_
    have nDq : D ≠ q := ne_of_none upd_same nq
    have nq1 : H2 q = none := (Same.new nD).free nq
    have S3 : Same H2 (upd (upd H2 D (.dK kvs)) q (.dK [])) := (Same.new nD).trans (Same.new nq)
    refine ⟨_, rfl, _, rfl, upd_same, by rw [upd_ne nDq, upd_same], nDq, .inr n, rfl, ?_⟩
    rw [putK_new _ (valV_not (by
      rw [hP.keys]
      intro z
      obtain ⟨y, hy, e⟩ := List.mem_map.mp z
      exact nn (by rw [← Sum.inr.inj e]; exact hy)))]
    have S4 : Same H2 (upd (upd (upd (upd H2 D (.dK kvs)) q (.dK [])) q (.dK [(.inr n, .ref t)])) D (.dK (kvs ++ [(.inr n, .ref t)]))) := fun b u e => by
      rw [upd_ne (ne_of_none e nD), upd_ne (ne_of_none e nq1)]; exact S3 _ _ e
    have hD4 : upd (upd (upd (upd H2 D (.dK kvs)) q (.dK [])) q (.dK [(.inr n, .ref t)])) D (.dK (kvs ++ [(.inr n, .ref t)])) D = some (.dK (kvs ++ [(.inr n, .ref t)])) := upd_same
    refine cast_heap (b := upd (upd (upd (upd H2 D (.dK kvs)) q (.dK [])) q (.dK [(.inr n, .ref t)])) D (.dK (kvs ++ [(.inr n, .ref t)]))) rfl ?_
    generalize upd (upd (upd (upd H2 D (.dK kvs)) q (.dK [])) q (.dK [(.inr n, .ref t)])) D (.dK (kvs ++ [(.inr n, .ref t)])) = H4 at S4 hD4 ⊢
    have P4 : Pr2 K H4 (ys ++ [n]) (fun x => .str (if x = n then "clock" else hk x)) (fun x => .int (if x = n then i else wt x)) (kvs ++ [(.inr n, .ref t)]) := by
      refine ((hP.up S4).congr fun x m => ?_).snoc ?_
      · have ne : x ≠ n := fun e => nn (by rw [← e]; exact m)
        rw [if_neg ne, if_neg ne]; exact ⟨rfl, rfl⟩
      · rw [if_pos rfl, if_pos rfl]; exact stUp ht (S2.trans S4)
    have w4 : ∀ x ∈ ys ++ [n], 0 ≤ (if x = n then i else wt x) := fun x m => by
      by_cases e : x = n
      · rw [if_pos e]; exact i0
      · rw [if_neg e]; exact w0 x ((List.mem_append.mp m).resolve_right fun z => e (List.mem_singleton.mp z))
    refine mk_book hD4 P4 (rok_snoc O nn hn yl) w4 fun b2 H5 zs nb2 s5 B5 zp zsrt => ?_
    have S5 := (S2.trans S4).trans s5
    refine ⟨_, rfl, c, A.a_Course, dx, _, _, rfl, S5 _ _ hc, T.cl_Co, T.nCoS, rfl, _, rfl, c, A.a_Course, dx, _, _, rfl, S5 _ _ hc, T.cl_Co, T.nCoE, rfl, mk_course (S5 _ _ hs) (S5 _ _ hd) fun c2 H6 nc2 s6 hC2 => ?_⟩
    have zN : zs.Nodup := zp.nodup_iff.mpr (List.nodup_append.mpr ⟨nd, by simp, fun x hx y hy e => nn (by rw [List.mem_singleton.mp hy] at e; rw [← e]; exact hx)⟩)
    have zm : n ∈ zs := zp.mem_iff.mpr (List.mem_append_right _ (List.mem_singleton.mpr rfl))
    refine ⟨_, rfl, _, rfl, c2, m2, b2, now, ss, ds, zs, _, _, n, rfl, hC2, (B5.up s6).rd, zN, zm, fun H7 s7 => ?_⟩
    rw [show dueF (fun x => if x = n then "clock" else hk x) (fun x => if x = n then i else wt x) ds n = some i from by unfold dueF; simp]
    have S7 := (S5.trans s6).trans s7
    refine ⟨_, rfl, rfl, true, rfl, iteT ⟨_, rfl, _, rfl, c, A.a_Course, dx, _, _, rfl, S7 _ _ hc, T.cl_Co, T.nCoP, rfl, _, _, rfl, rfl, _, rfl, ite2 (fun _ => ?_) (fun c1 => absurd lt (of_decide_eq_false (eq_false_of_ne_true c1)))⟩⟩
    exact ⟨_, rfl, by show 1 ≤ 1000; decide, fun a na => ⟨a, _, H7, rfl, upd_same, na, exc_pre na (Same.refl _) (.inl ⟨.str _, .str _, by simp [PyData.depth], rfl⟩), fun y Hc dd s8 h1 h2 h3 => ⟨rfl, dd, _, exc_fin na s8 h1 h2 h3 (fun y dd H9 s9 hdd sd => ra y dd H9 (S7.trans s9) hdd (sd_str sd)) _ rfl⟩⟩⟩
def spPutX (K : PySem.W.Frag) (CM CC CB CO : Addr) : Sp := fun vs H _ E => ∃ (c m b : Addr) (now l h i : Int) (ss ds : List (Str × Int)) (ys : List Str) (lo hi : Str → Int) (hk : Str → Str) (wt : Str → Int) (rk : Str → Nat) (n : Str), vs = [.ref c, .str n, .int l, .int h, .str "clock", .int i] ∧ CoF CC H c now m b ss ds ∧ MlAt K CM H m ys lo hi [] [] ∧ BkAt CB H b ys hk wt ∧ ROk rk (rowsF ys hk) ∧ ys.length < 59 ∧ (∀ x ∈ ys, 0 ≤ wt x) ∧ (∀ x ∈ ys, 1 ≤ lo x ∧ lo x ≤ hi x) ∧ n ∉ ys ∧ (Nm n ∧ PyData.strOk n = true) ∧ 1 ≤ l ∧ l ≤ h ∧ 0 ≤ i ∧ i < now ∧ RaN CO n H E
theorem ok_putX (T : Txt K mg A) : FnOk P w K mg base (L2.CX P w) 9 A.a_put_in A.d_put_in P_put_in (spPutX K A.a_Meal A.a_Course A.a_Book A.a_TooEarly) := by
  have G_Meal_dishes : FnOk P w K mg base CX0 1 A.a_Meal_dishes A.d_Meal_dishes P_Meal_dishes (spMDishes K A.a_Meal) := ok_mdishes T
  have G_is_name : FnOk P w K mg base CX0 1 A.a_is_name A.d_is_name P_is_name spIsName := ok_isname T
  have G_is_dish : FnOk P w K mg base CX0 1 A.a_is_dish A.d_is_dish P_is_dish (spIsDish K) := ok_isdish T
  have G_is_bounds : FnOk P w K mg base CX0 2 A.a_is_bounds A.d_is_bounds P_is_bounds (spBounds K) := ok_bounds T
  have G_Meal___init__ : FnOk P w K mg base CX0 5 A.a_Meal___init__ A.d_Meal___init__ P_Meal___init__ (spInit K A.a_Meal) := ok_init T
  have G_Meal___add__ : FnOk P w K mg base CX0 7 A.a_Meal___add__ A.d_Meal___add__ P_Meal___add__ (spAddE K A.a_Meal) := ok_addE T
  have G_hung_at : FnOk P w K mg base (L2.CX P w) 8 A.a_hung_at A.d_hung_at P_hung_at (spHungX K A.a_Course A.a_Book A.a_TooEarly) := ok_hungX T
  obtain ⟨dsM, vM1, bM1⟩ := T.bM1
  refine T.f_put_in.okX sc_put_in (fun vs H Q E h => ?_) (fun cdv A' outer s H vs Q E hr h => ?_)
  · obtain ⟨c, m, b, now, l, h, i, ss, ds, ys, lo, hi, hk, wt, rk, n, rfl, _⟩ := h
    rfl
  · obtain ⟨c, m, b, now, l, h, i, ss, ds, ys, lo, hi, hk, wt, rk, n, rfl, hC, M, B, O, yl, w0, bd, nn, hn, l1, lh, i0, lt, ra⟩ := h
    refine ⟨_, (pss_cons (ps_set (i := 6) sc_put_in.nd rfl (Or.inl rfl) (pe_meth0 (pe_fld (pv 0) rfl) T.cl_M T.m_dishes G_Meal_dishes (hr.mono (by omega)) T.b_Meal_dishes .nil pass0))
 (pss_cons (ps_if (PW.pt (pw_or (pt_not (pt_val (pe_call G_is_name (hr.mono (by omega)) (by rfl) T.g_is_name T.f_is_name.kp T.b_is_name .nil pass0 (pa_cons (pv 1) pa_nil)))) (pw_or (pt_val (pe_call G_is_dish (hr.mono (by omega)) (by rfl) T.g_is_dish T.f_is_dish.kp T.b_is_dish .nil pass0 (pa_cons (pv 1) (pa_cons (pv 6) pa_nil)))) (pw_or1 (pt_not (pt_val (pe_call G_is_bounds (hr.mono (by omega)) (by rfl) T.g_is_bounds T.f_is_bounds.kp T.b_is_bounds .nil pass0 (pa_cons (pe_tup (pa_cons (pv 2) (pa_cons (pv 3) pa_nil))) pa_nil))))))))
 (pss_one ps_never)
 pss_nil)
 (pss_one (ps_ret (pe_call G_hung_at (hr.mono (by omega)) (by rfl) T.g_hung_at T.f_hung_at.kp T.b_hung_at .nil (passes_call (takes_of rfl rfl rfl rfl) (fun _ _ _ _ h => h)) (pa_cons (pv 0) (pa_cons (pe_op (Own.op_like G_Meal___add__ T.oAdd.1 T.oAdd.2 T.sfM T.b_Meal___add__ pass0 (hr.mono (by omega))) (pe_fld (pv 0) rfl) (pe_make T.mkM G_Meal___init__ (hr.mono (by omega)) (by rfl) T.g_Meal bM1 vM1 pass0 (pa_cons (pe_disp (pps_cons (pv 1) (pe_tup (pa_cons (pv 2) (pa_cons (pv 3) pa_nil))) pps_nil) (by rfl) (by rfl) (fun z => by cases z) (by decide)) pa_nil))) (pa_cons (pv 1) (pa_cons (pe_tup (pa_cons (pv 4) (pa_cons (pv 5) pa_nil))) pa_nil))))))))), ?_⟩
    obtain ⟨dx, qs, qd, hc, hs, hd⟩ := id hC
    obtain ⟨dxm, qb, qw, qp, kvm, wv, ps, hp, _⟩ := id M.ex
    have nd : ys.Nodup := ROk_nd O
    refine ⟨_, rfl, c, A.a_Course, dx, _, _, rfl, hc, T.cl_Co, T.nCoD, rfl, m, dxm, _, rfl, hp, rfl, m, ys, lo, hi, [], [], rfl, M, fun l2 H1 kvs nl2 s1 hl2 hP => ?_⟩
    refine ⟨_, rfl, n, rfl, hn.1, fun H2 s2 => ?_⟩
    refine ⟨true, rfl, iteF ⟨_, rfl, _, rfl, .str n, l2, kvs, rfl, .inl (s2 _ _ hl2), .inl ⟨n, rfl, ?_⟩⟩⟩
    rw [valV_not (by
      rw [hP.keys]
      intro z
      obtain ⟨y, hy, e⟩ := List.mem_map.mp z
      exact nn (by rw [← Sum.inr.inj e]; exact hy))]
    refine ⟨false, rfl, iteF ?_⟩
    refine ⟨_, rfl, _, rfl, by show 2 ≤ sizeLine; decide, fun t nt => ⟨t, l, h, rfl, .inr (SqT.of upd_same), l1, lh, fun H3 s3 => ⟨true, rfl, iteF ?_⟩⟩⟩
    have S3 := (s1.trans s2).trans ((Same.new nt).trans s3)
    have hc3 := S3 _ _ hc
    clear nt s3
    refine ⟨_, rfl, _, rfl, c, A.a_Course, dx, _, _, rfl, hc3, T.cl_Co, T.nCoD, rfl, ?_⟩
    intro D nD
    refine ⟨_, rfl, _, rfl, _, rfl, by show 2 ≤ sizeLine; decide, fun t nt => ?_⟩
    have ntD : t ≠ D := (ne_of_none upd_same nt).symm
    have nt3 : H3 t = none := by rwa [upd_ne ntD] at nt
    refine ⟨by rw [upd_ne ntD.symm, upd_same], [(.inr n, .ref t)], rfl, by show 1 ≤ 15; decide, ?_⟩
    have S4 : Same H3 (upd (upd (upd H3 D (.dK [])) t (.tup [.int l, .int h])) D (.dK (mergeK [] [(.inr n, .ref t)]))) := fun b u e => by
      rw [upd_ne (ne_of_none e nD), upd_ne (ne_of_none e nt3), upd_ne (ne_of_none e nD)]; exact e
    have hD4 : upd (upd (upd H3 D (.dK [])) t (.tup [.int l, .int h])) D (.dK (mergeK [] [(.inr n, .ref t)])) D = some (.dK [(.inr n, .ref t)]) := upd_same
    have ht4 : upd (upd (upd H3 D (.dK [])) t (.tup [.int l, .int h])) D (.dK (mergeK [] [(.inr n, .ref t)])) t = some (.tup [.int l, .int h]) := by rw [upd_ne ntD, upd_same]
    refine cast_heap (b := upd (upd (upd H3 D (.dK [])) t (.tup [.int l, .int h])) D (.dK (mergeK [] [(.inr n, .ref t)]))) rfl ?_
    generalize upd (upd (upd H3 D (.dK [])) t (.tup [.int l, .int h])) D (.dK (mergeK [] [(.inr n, .ref t)])) = H4 at S4 hD4 ht4 ⊢
    have P4 : Pr2 K H4 [n] (fun _ => .int l) (fun _ => .int h) [(.inr n, .ref t)] := Pr2.nil.snoc (SqT.of ht4)
    refine mk_meal hD4 P4.x (by simp) (fun x m => by rw [List.mem_singleton.mp m]; exact ⟨hn, l1, lh⟩) (by show 1 < 64; decide) (.inr (stUp T.e0W (fun _ _ z => nomatch z))) .nil rfl (Nat.zero_le _) (fun _ m => nomatch m) (.inr (stUp T.e0 (fun _ _ z => nomatch z))) .nil rfl (Nat.zero_le _) (fun _ m => nomatch m) (fun p2 H5 zs np s5 MN zp zsrt => ?_)
    have S5 := S3.trans (S4.trans s5)
    have M5 : MlAt K A.a_Meal H5 p2 zs (fun _ => l) (fun _ => h) [] [] := MN _ KeepM.refl
    obtain ⟨dx5, qb5, qw5, qp5, kv5, wv5, ps5, hp5, _⟩ := id M5.ex
    have zm : ∀ x ∈ zs, x = n := fun x m => List.mem_singleton.mp (zp.mem_iff.mp m)
    refine ⟨m, dxm, _, rfl, S5 _ _ hp, ⟨p2, dx5, _, rfl, hp5⟩, m, p2, ys, zs, lo, hi, _, _, rfl, M.up S5, M5, nd, zp.nodup_iff.mpr (by simp), fun x mx z => nn (by rw [← zm x z]; exact mx), by rw [zp.length_eq]; simp; omega, fun x mx => ⟨O.nm x (by rw [ksR_F]; exact mx), bd x mx⟩, fun x mx => by rw [zm x mx]; exact ⟨hn, l1, lh⟩, fun p3 H6 s6 => ⟨p3, rfl, ?_⟩⟩
    have S6 := S5.trans s6
    refine ⟨_, rfl, _, rfl, _, rfl, by show 2 ≤ sizeLine; decide, fun t2 nt2 => ?_⟩
    have S7 := S6.trans (Same.new nt2 (o := .tup [.str "clock", .int i]))
    exact ⟨c, m, b, p3, t2, now, i, ss, ds, ys, hk, wt, rk, n, rfl, SqT.of upd_same, hC.up S7, B.up S7, O, by omega, w0, nn, hn, i0, lt, fun y dd H' s e1 e2 => ra y dd H' (S7.trans s) e1 e2⟩
end
end K5
set_option Elab.async false
set_option linter.all false
set_option maxRecDepth 100000
set_option maxHeartbeats 4000000
namespace K5
open PySem L2
local macro_rules | `(tactic| walk_at "rd1") => `(tactic| first
  | refine ⟨_, _, rfl, rfl, ?_⟩
  | refine ⟨_, _, _, _, rfl, rfl, SqL.of (by assumption), rfl, ?_⟩
  | refine ⟨_, _, _, _, rfl, rfl, (by assumption), rfl, ?_⟩
  | refine .inl ⟨_, rfl, ?_⟩
  | refine ⟨_, rfl, ?_⟩
  | refine ⟨(by unfold CMul; omega), ?_⟩
  | refine ⟨(by unfold CPow; omega), ?_⟩
  | refine ⟨(by (try dsimp only); omega), ?_⟩
  | refine ⟨(by unfold CDiv; omega), ?_⟩
  | fail "rd1")
local macro_rules | `(tactic| walk_at "rd") => `(tactic| repeat' (walk_at "rd1"))
open Own
section
variable {P : Program} {w : World} {K : PySem.W.Frag} {mg : Str → Option Value} {base : Heap} {A : Ad}
def f2 (H : Hp) (e l : Addr) : Hp := er (er H e) l
def EvF (CE : Addr) (H : Hp) (e l c : Addr) (past : List V) : Prop := (∃ dx, H e = some (.ins CE dx [("course", .ref c), ("past", .ref l)])) ∧ H l = some (.lst past)
theorem f2_same {H : Hp} {e l : Addr} : Same (f2 H e l) H := (er_same _ _).trans (er_same _ _)
theorem f2_mono {H H' : Hp} {e l : Addr} (s : Same H H') : Same (f2 H e l) (f2 H' e l) := er_mono (er_mono s)
theorem f2_of {H : Hp} {e l x : Addr} {u : HO} (n1 : x ≠ e) (n2 : x ≠ l) (h : H x = some u) : f2 H e l x = some u := er_of n2 (er_of n1 h)
theorem f2_new {H H' : Hp} {e l : Addr} (s : Same H H') (h1 : H e = none) (h2 : H l = none) : Same H (f2 H' e l) := fun x u h => f2_of (ne_of_none h h1) (ne_of_none h h2) (s _ _ h)
theorem EvF.up {CE : Addr} {H H' : Hp} {e l c : Addr} {past : List V} (h : EvF CE H e l c past) (s : Same H H') : EvF CE H' e l c past := ⟨h.1.imp fun _ z => s _ _ z, s _ _ h.2⟩
theorem EvF.co {CE CC : Addr} {H : Hp} {e l c p m b : Addr} {past : List V} {now : Int} {ss ds : List (Str × Int)} (h : EvF CE H e l c past) (hC : CoF CC H p now m b ss ds) : CoF CC (f2 H e l) p now m b ss ds := by
  obtain ⟨⟨dx, he⟩, hl⟩ := h
  obtain ⟨dxc, qs, qd, h1, h2, h3⟩ := hC
  refine ⟨dxc, qs, qd, f2_of ?_ ?_ h1, f2_of ?_ ?_ h2, f2_of ?_ ?_ h3⟩
  · rintro rfl; rw [he] at h1; have := (HO.ins.inj (Option.some.inj h1)).2.2; cases this
  · rintro rfl; rw [hl] at h1; cases h1
  · rintro rfl; rw [he] at h2; cases h2
  · rintro rfl; rw [hl] at h2; cases h2
  · rintro rfl; rw [he] at h3; cases h3
  · rintro rfl; rw [hl] at h3; cases h3
theorem EvF.dp {CE : Addr} {H : Hp} {e l c : Addr} {past : List V} {v : V} {d : PyData} (h : EvF CE H e l c past) (hD : Dp K H v d) (t : tp d = true) : Dp K (f2 H e l) v d := by
  obtain ⟨⟨dx, he⟩, hl⟩ := h
  have nle : l ≠ e := fun z => by rw [z, he] at hl; cases hl
  exact dpEr (er_of nle hl) (noTup_lst _) (dpEr he (noTup_ins _ _ _) hD t) t
theorem EvF.prs {CE : Addr} {H : Hp} {e l c q : Addr} {past : List V} {fs : List (Str × Int)} (h : EvF CE H e l c past) (n : q ≠ l) (hq : PrsL K H q fs) : PrsL K (f2 H e l) q fs := by
  obtain ⟨⟨dx, he⟩, hl⟩ := h
  have nle : l ≠ e := fun z => by rw [z, he] at hl; cases hl
  obtain ⟨bs, h1, h2⟩ := hq
  have nqe : q ≠ e := fun z => by rw [z, he] at h1; cases h1
  exact ⟨bs, f2_of nqe n h1, paired_imp (fun b (r : Str × Int) (z : SqT K H b [.int r.2, .str r.1]) => tupEr (er_of nle hl) (noTup_lst _) (tupEr he (noTup_ins _ _ _) z)) h2⟩
def spFollow (K : PySem.W.Frag) (CE : Addr) : Sp := fun vs H Q _ => ∃ (e l c c' t : Addr) (v : V) (past : List V), vs = [.ref e, .ref t] ∧ EvF CE H e l c past ∧ H t = some (.tup [.ref c', v]) ∧ past.length ≤ 900 ∧ ∀ H', EvF CE H' e l c' (past ++ [.ref c]) → f2 H' e l = f2 H e l → Q v H'
theorem ok_follow (T : Txt K mg A) : FnOk P w K mg base CX0 1 A.a_Evening_follow A.d_Evening_follow P_Evening_follow (spFollow K A.a_Evening) := by
  refine T.f_Evening_follow.ok sc_Evening_follow (fun vs H Q E h => ?_) (fun cdv A' outer s H vs Q E hr h => ?_)
  · obtain ⟨e, l, c, c', t, v, past, rfl, _⟩ := h
    rfl
  · obtain ⟨e, l, c, c', t, v, past, rfl, ⟨⟨dx, he⟩, hl⟩, ht, pl, k⟩ := h
    refine ⟨_, (pss_cons (ps_asg (pv 1) (pg_tup (by rfl) (pgs_cons (pg_name (i := 2) sc_Evening_follow.nd rfl (Or.inl rfl)) (pgs_cons (pg_name (i := 3) sc_Evening_follow.nd rfl (Or.inl rfl)) pgs_nil))))
 (pss_cons (ps_expr (pe_bm PySem.F.plainAttrs_list PySem.F.slot_list_append PySem.F.type_list_append mt_append (pe_fld (pv 0) rfl) (pa_cons (pe_fld (pv 0) rfl) pa_nil)))
 (pss_cons (ps_fld (pv 0) (pv 2) rfl)
 (pss_one (ps_ret (pv 3)))))), ?_⟩
    refine ⟨_, rfl, t, _, rfl, SqT.of ht, rfl, _, _, rfl, _, _, rfl, rfl, ?_⟩
    dsimp only [List.set]
    have nle : l ≠ e := fun z => by rw [z, he] at hl; cases hl
    refine ⟨_, rfl, e, A.a_Evening, dx, _, _, rfl, he, T.cl_Ev, T.nEvP, rfl, .inl ⟨rfl, _, SqL.of hl⟩, _, rfl, e, A.a_Evening, dx, _, _, rfl, he, T.cl_Ev, T.nEvC, rfl, l, _, _, rfl, rfl, hl, Nat.lt_of_le_of_lt pl (by decide), ?_⟩
    have he1 : upd H l (.lst (past ++ [.ref c])) e = some (.ins A.a_Evening dx [("course", .ref c), ("past", .ref l)]) := by rw [upd_ne nle.symm]; exact he
    refine ⟨_, rfl, _, rfl, e, A.a_Evening, dx, _, rfl, he1, T.cl_Ev, T.nEvC, by show 2 < 1000; decide, _, rfl, ?_⟩
    refine k _ ⟨⟨dx, upd_same⟩, by rw [upd_ne nle, upd_same]⟩ ?_
    funext x
    by_cases e1 : x = e
    · subst e1; unfold f2 er; simp
    · by_cases e2 : x = l
      · subst e2; unfold f2 er; simp
      · unfold f2 er; simp [e1, e2, upd_ne]
end
end K5
set_option Elab.async false
set_option linter.all false
set_option maxRecDepth 100000
set_option maxHeartbeats 4000000
namespace K5
open PySem L2
local macro_rules | `(tactic| walk_at "rd1") => `(tactic| first
  | refine ⟨_, _, rfl, rfl, ?_⟩
  | refine ⟨_, _, _, _, rfl, rfl, SqL.of (by assumption), rfl, ?_⟩
  | refine ⟨_, _, _, _, rfl, rfl, (by assumption), rfl, ?_⟩
  | refine .inl ⟨_, rfl, ?_⟩
  | refine ⟨_, rfl, ?_⟩
  | refine ⟨(by unfold CMul; omega), ?_⟩
  | refine ⟨(by unfold CPow; omega), ?_⟩
  | refine ⟨(by (try dsimp only); omega), ?_⟩
  | refine ⟨(by unfold CDiv; omega), ?_⟩
  | fail "rd1")
local macro_rules | `(tactic| walk_at "rd") => `(tactic| repeat' (walk_at "rd1"))
open Own
section
variable {P : Program} {w : World} {K : PySem.W.Frag} {mg : Str → Option Value} {base : Heap} {A : Ad}
def spGoE (K : PySem.W.Frag) (CM CC CB CE : Addr) : Sp := fun vs H Q _ => ∃ (e l c m b : Addr) (past : List V) (now mi : Int) (ss ds : List (Str × Int)) (ys : List Str) (lo hi : Str → Int) (ws es : List PyData) (hk : Str → Str) (wt : Str → Int), vs = [.ref e, .int mi] ∧ EvF CE H e l c past ∧ past.length ≤ 900 ∧ 1 ≤ mi ∧ CoF CC (f2 H e l) c now m b ss ds ∧ MlAt K CM (f2 H e l) m ys lo hi ws es ∧ BkAt CB (f2 H e l) b ys hk wt ∧ ys.Nodup ∧ ys.length < 64 ∧ (ss.map (·.1)).Nodup ∧ ss.length ≤ 900 ∧ ds.length ≤ 900 ∧ (freshL hk wt ss ds (now + mi) ys).length ≤ 1 ∧
  (∀ n ∈ ys, ∀ i, look (ss ++ freshL hk wt ss ds (now + mi) ys) n = some i → look ds n = none → now + mi - i ≤ hi n) ∧
  ∀ c' l2 H', EvF CE H' e l c' (past ++ [.ref c]) → Same (f2 H e l) (f2 H' e l) → CoF CC (f2 H' e l) c' (now + mi) m b (ss ++ freshL hk wt ss ds (now + mi) ys) ds → PrsL K (f2 H' e l) l2 (freshL hk wt ss ds (now + mi) ys) → Q (.ref l2) H'
theorem ok_goE (T : Txt K mg A) : FnOk P w K mg base CX0 8 A.a_Evening_go A.d_Evening_go P_Evening_go (spGoE K A.a_Meal A.a_Course A.a_Book A.a_Evening) := by
  have G_gone : FnOk P w K mg base CX0 7 A.a_gone A.d_gone P_gone (spGone K A.a_Meal A.a_Course A.a_Book) := ok_gone T
  have G_Evening_follow : FnOk P w K mg base CX0 1 A.a_Evening_follow A.d_Evening_follow P_Evening_follow (spFollow K A.a_Evening) := ok_follow T
  refine T.f_Evening_go.ok sc_Evening_go (fun vs H Q E h => ?_) (fun cdv A' outer s H vs Q E hr h => ?_)
  · obtain ⟨e, l, c, m, b, past, now, mi, ss, ds, ys, lo, hi, ws, es, hk, wt, rfl, _⟩ := h
    rfl
  · obtain ⟨e, l, c, m, b, past, now, mi, ss, ds, ys, lo, hi, ws, es, hk, wt, rfl, hE, pl, m1, hC, M, B, nd, yl, sN, sl, dl, fl, hov, k⟩ := h
    refine ⟨_, (pss_one (ps_ret (pe_meth (pv 0) T.cl_Ev T.m_followE G_Evening_follow (hr.mono (by omega)) T.b_Evening_follow .nil pass0 (pa_cons (pe_call G_gone (hr.mono (by omega)) (by rfl) T.g_gone T.f_gone.kp T.b_gone .nil pass0 (pa_cons (pe_fld (pv 0) rfl) (pa_cons (pv 1) pa_nil))) pa_nil)))), ?_⟩
    obtain ⟨⟨dx, he⟩, hl⟩ := id hE
    refine ⟨_, rfl, e, dx, _, rfl, he, rfl, _, rfl, e, A.a_Evening, dx, _, _, rfl, he, T.cl_Ev, T.nEvC, rfl, _, rfl, c, m, b, now, mi, ss, ds, ys, lo, hi, ws, es, hk, wt, rfl, m1, hC.up f2_same, M.up f2_same, B.up f2_same, nd, yl, sN, sl, dl, fl, hov, fun t c' l2 H1 s1 nl2 ht hC' hl2 => ?_⟩
    refine ⟨e, l, c, c', t, .ref l2, past, rfl, hE.up s1, ht, pl, fun H' hE' ef => k c' l2 H' hE' (by rw [ef]; exact f2_mono s1) (by rw [ef]; exact (hE.up s1).co hC') (by rw [ef]; exact (hE.up s1).prs (fun z => by rw [z, hl] at nl2; cases nl2) hl2)⟩
def spGoEX (K : PySem.W.Frag) (CM CC CB CE CO : Addr) : Sp := fun vs H _ E => ∃ (e l c m b : Addr) (past : List V) (now mi : Int) (ss ds : List (Str × Int)) (ys : List Str) (lo hi : Str → Int) (ws es : List PyData) (hk : Str → Str) (wt : Str → Int) (no : Str), vs = [.ref e, .int mi] ∧ EvF CE H e l c past ∧ 1 ≤ mi ∧ CoF CC (f2 H e l) c now m b ss ds ∧ MlAt K CM (f2 H e l) m ys lo hi ws es ∧ BkAt CB (f2 H e l) b ys hk wt ∧ ys.Nodup ∧ ys.length < 64 ∧ (ss.map (·.1)).Nodup ∧ ss.length ≤ 900 ∧ ds.length ≤ 900 ∧ (freshL hk wt ss ds (now + mi) ys).length ≤ 1 ∧
  no ∈ ys ∧ (∃ i, look (ss ++ freshL hk wt ss ds (now + mi) ys) no = some i ∧ look ds no = none ∧ hi no < now + mi - i) ∧ (∀ n ∈ ys, ∀ i, look (ss ++ freshL hk wt ss ds (now + mi) ys) n = some i → look ds n = none → hi n < now + mi - i → n = no) ∧ RaN CO no H E
theorem ok_goEX (T : Txt K mg A) : FnOk P w K mg base (L2.CX P w) 8 A.a_Evening_go A.d_Evening_go P_Evening_go (spGoEX K A.a_Meal A.a_Course A.a_Book A.a_Evening A.a_Overdue) := by
  have G_gone : FnOk P w K mg base (L2.CX P w) 7 A.a_gone A.d_gone P_gone (spGoneX K A.a_Meal A.a_Course A.a_Book A.a_Overdue) := ok_goneX T
  have G_Evening_follow : FnOk P w K mg base CX0 1 A.a_Evening_follow A.d_Evening_follow P_Evening_follow (spFollow K A.a_Evening) := ok_follow T
  refine T.f_Evening_go.okX sc_Evening_go (fun vs H Q E h => ?_) (fun cdv A' outer s H vs Q E hr h => ?_)
  · obtain ⟨e, l, c, m, b, past, now, mi, ss, ds, ys, lo, hi, ws, es, hk, wt, no, rfl, _⟩ := h
    rfl
  · obtain ⟨e, l, c, m, b, past, now, mi, ss, ds, ys, lo, hi, ws, es, hk, wt, no, rfl, hE, m1, hC, M, B, nd, yl, sN, sl, dl, fl, mno, hno, hov, ra⟩ := h
    refine ⟨_, (pss_one (ps_ret (pe_meth (pv 0) T.cl_Ev T.m_followE G_Evening_follow (hr.mono (by omega)) T.b_Evening_follow .nil pass0 (pa_cons (pe_call G_gone (hr.mono (by omega)) (by rfl) T.g_gone T.f_gone.kp T.b_gone .nil (passes_call (takes_of rfl rfl rfl rfl) (fun _ _ _ _ h => h)) (pa_cons (pe_fld (pv 0) rfl) (pa_cons (pv 1) pa_nil))) pa_nil)))), ?_⟩
    obtain ⟨⟨dx, he⟩, hl⟩ := id hE
    exact ⟨_, rfl, e, dx, _, rfl, he, rfl, _, rfl, e, A.a_Evening, dx, _, _, rfl, he, T.cl_Ev, T.nEvC, rfl, _, rfl, c, m, b, now, mi, ss, ds, ys, lo, hi, ws, es, hk, wt, no, rfl, m1, hC.up f2_same, M.up f2_same, B.up f2_same, nd, yl, sN, sl, dl, fl, mno, hno, hov, ra⟩
def spCallE (K : PySem.W.Frag) (CM CC CB CE : Addr) : Sp := fun vs H Q _ => ∃ (e l c m b : Addr) (past : List V) (now : Int) (ss ds : List (Str × Int)) (ys : List Str) (lo hi : Str → Int) (ws es : List PyData) (hk : Str → Str) (wt : Str → Int) (n : Str) (i : Int), vs = [.ref e, .str n] ∧ EvF CE H e l c past ∧ past.length ≤ 900 ∧ CoF CC (f2 H e l) c now m b ss ds ∧ MlAt K CM (f2 H e l) m ys lo hi ws es ∧ BkAt CB (f2 H e l) b ys hk wt ∧ ys.Nodup ∧ ys.length < 64 ∧ (ss.map (·.1)).Nodup ∧ ss.length ≤ 900 ∧ ds.length ≤ 800 ∧ (ds.map (·.1)).Nodup ∧ n ∈ ys ∧ look ss n = some i ∧ look ds n = none ∧ lo n ≤ now - i ∧ (freshL hk wt ss (ds ++ [(n, now)]) now ys).length ≤ 1 ∧
  ∀ c' l2 H', EvF CE H' e l c' (past ++ [.ref c]) → Same (f2 H e l) (f2 H' e l) → CoF CC (f2 H' e l) c' now m b (ss ++ freshL hk wt ss (ds ++ [(n, now)]) now ys) (ds ++ [(n, now)]) → f2 H' e l l2 = some (.lst ((freshL hk wt ss (ds ++ [(n, now)]) now ys).map fun r => .str r.1)) → Q (.ref l2) H'
theorem ok_callE (T : Txt K mg A) : FnOk P w K mg base CX0 8 A.a_Evening_call A.d_Evening_call P_Evening_call (spCallE K A.a_Meal A.a_Course A.a_Book A.a_Evening) := by
  have G_called : FnOk P w K mg base CX0 7 A.a_called A.d_called P_called (spCalled K A.a_Meal A.a_Course A.a_Book) := ok_called T
  have G_Evening_follow : FnOk P w K mg base CX0 1 A.a_Evening_follow A.d_Evening_follow P_Evening_follow (spFollow K A.a_Evening) := ok_follow T
  refine T.f_Evening_call.ok sc_Evening_call (fun vs H Q E h => ?_) (fun cdv A' outer s H vs Q E hr h => ?_)
  · obtain ⟨e, l, c, m, b, past, now, ss, ds, ys, lo, hi, ws, es, hk, wt, n, i, rfl, _⟩ := h
    rfl
  · obtain ⟨e, l, c, m, b, past, now, ss, ds, ys, lo, hi, ws, es, hk, wt, n, i, rfl, hE, pl, hC, M, B, nd, yl, sN, sl, dl, dN, mn, els, eld, le, fl, k⟩ := h
    refine ⟨_, (pss_one (ps_ret (pe_meth (pv 0) T.cl_Ev T.m_followE G_Evening_follow (hr.mono (by omega)) T.b_Evening_follow .nil pass0 (pa_cons (pe_call G_called (hr.mono (by omega)) (by rfl) T.g_called T.f_called.kp T.b_called .nil pass0 (pa_cons (pe_fld (pv 0) rfl) (pa_cons (pv 1) pa_nil))) pa_nil)))), ?_⟩
    obtain ⟨⟨dx, he⟩, hl⟩ := id hE
    refine ⟨_, rfl, e, dx, _, rfl, he, rfl, _, rfl, e, A.a_Evening, dx, _, _, rfl, he, T.cl_Ev, T.nEvC, rfl, _, rfl, c, m, b, now, ss, ds, ys, lo, hi, ws, es, hk, wt, n, i, rfl, hC.up f2_same, M.up f2_same, B.up f2_same, nd, yl, sN, sl, dl, dN, mn, els, eld, le, fl, fun t c' l2 H1 s1 nl2 ht hC' hl2 => ?_⟩
    refine ⟨e, l, c, c', t, .ref l2, past, rfl, hE.up s1, ht, pl, fun H' hE' ef => k c' l2 H' hE' (by rw [ef]; exact f2_mono s1) (by rw [ef]; exact (hE.up s1).co hC') (by rw [ef]; exact f2_of (fun z => by rw [z, he] at nl2; cases nl2) (fun z => by rw [z, hl] at nl2; cases nl2) hl2)⟩
def spCallEX (K : PySem.W.Frag) (CM CC CE CO : Addr) : Sp := fun vs H _ E => ∃ (e l c m b : Addr) (past : List V) (now : Int) (ss ds : List (Str × Int)) (ys : List Str) (lo hi : Str → Int) (ws es : List PyData) (n : Str) (i : Int), vs = [.ref e, .str n] ∧ EvF CE H e l c past ∧ CoF CC (f2 H e l) c now m b ss ds ∧ MlAt K CM (f2 H e l) m ys lo hi ws es ∧ ys.Nodup ∧ n ∈ ys ∧ look ss n = some i ∧ look ds n = none ∧ now - i < lo n ∧ RaN CO n H E
theorem ok_callEX (T : Txt K mg A) : FnOk P w K mg base (L2.CX P w) 8 A.a_Evening_call A.d_Evening_call P_Evening_call (spCallEX K A.a_Meal A.a_Course A.a_Evening A.a_TooSoon) := by
  have G_called : FnOk P w K mg base (L2.CX P w) 7 A.a_called A.d_called P_called (spCalledX K A.a_Meal A.a_Course A.a_TooSoon) := ok_calledX T
  have G_Evening_follow : FnOk P w K mg base CX0 1 A.a_Evening_follow A.d_Evening_follow P_Evening_follow (spFollow K A.a_Evening) := ok_follow T
  refine T.f_Evening_call.okX sc_Evening_call (fun vs H Q E h => ?_) (fun cdv A' outer s H vs Q E hr h => ?_)
  · obtain ⟨e, l, c, m, b, past, now, ss, ds, ys, lo, hi, ws, es, n, i, rfl, _⟩ := h
    rfl
  · obtain ⟨e, l, c, m, b, past, now, ss, ds, ys, lo, hi, ws, es, n, i, rfl, hE, hC, M, nd, mn, els, eld, lt, ra⟩ := h
    refine ⟨_, (pss_one (ps_ret (pe_meth (pv 0) T.cl_Ev T.m_followE G_Evening_follow (hr.mono (by omega)) T.b_Evening_follow .nil pass0 (pa_cons (pe_call G_called (hr.mono (by omega)) (by rfl) T.g_called T.f_called.kp T.b_called .nil (passes_call (takes_of rfl rfl rfl rfl) (fun _ _ _ _ h => h)) (pa_cons (pe_fld (pv 0) rfl) (pa_cons (pv 1) pa_nil))) pa_nil)))), ?_⟩
    obtain ⟨⟨dx, he⟩, hl⟩ := id hE
    exact ⟨_, rfl, e, dx, _, rfl, he, rfl, _, rfl, e, A.a_Evening, dx, _, _, rfl, he, T.cl_Ev, T.nEvC, rfl, _, rfl, c, m, b, now, ss, ds, ys, lo, hi, ws, es, n, i, rfl, hC.up f2_same, M.up f2_same, nd, mn, els, eld, lt, ra⟩
def spPutEX (K : PySem.W.Frag) (CM CC CB CE CO : Addr) : Sp := fun vs H _ E => ∃ (ev al c m b : Addr) (past : List V) (now l h i : Int) (ss ds : List (Str × Int)) (ys : List Str) (lo hi : Str → Int) (hk : Str → Str) (wt : Str → Int) (rk : Str → Nat) (n : Str), vs = [.ref ev, .str n, .int l, .int h, .str "clock", .int i] ∧ EvF CE H ev al c past ∧ CoF CC (f2 H ev al) c now m b ss ds ∧ MlAt K CM (f2 H ev al) m ys lo hi [] [] ∧ BkAt CB (f2 H ev al) b ys hk wt ∧ ROk rk (rowsF ys hk) ∧ ys.length < 59 ∧ (∀ x ∈ ys, 0 ≤ wt x) ∧ (∀ x ∈ ys, 1 ≤ lo x ∧ lo x ≤ hi x) ∧ n ∉ ys ∧ (Nm n ∧ PyData.strOk n = true) ∧ 1 ≤ l ∧ l ≤ h ∧ 0 ≤ i ∧ i < now ∧ RaN CO n H E
theorem ok_putEX (T : Txt K mg A) : FnOk P w K mg base (L2.CX P w) 10 A.a_Evening_put A.d_Evening_put P_Evening_put (spPutEX K A.a_Meal A.a_Course A.a_Book A.a_Evening A.a_TooEarly) := by
  have G_put_in : FnOk P w K mg base (L2.CX P w) 9 A.a_put_in A.d_put_in P_put_in (spPutX K A.a_Meal A.a_Course A.a_Book A.a_TooEarly) := ok_putX T
  have G_Evening_follow : FnOk P w K mg base CX0 1 A.a_Evening_follow A.d_Evening_follow P_Evening_follow (spFollow K A.a_Evening) := ok_follow T
  refine T.f_Evening_put.okX sc_Evening_put (fun vs H Q E h => ?_) (fun cdv A' outer s H vs Q E hr h => ?_)
  · obtain ⟨ev, al, c, m, b, past, now, l, h, i, ss, ds, ys, lo, hi, hk, wt, rk, n, rfl, _⟩ := h
    rfl
  · obtain ⟨ev, al, c, m, b, past, now, l, h, i, ss, ds, ys, lo, hi, hk, wt, rk, n, rfl, hE, hC, M, B, O, yl, w0, bd, nn, hn, l1, lh, i0, lt, ra⟩ := h
    refine ⟨_, (pss_one (ps_ret (pe_meth (pv 0) T.cl_Ev T.m_followE G_Evening_follow (hr.mono (by omega)) T.b_Evening_follow .nil pass0 (pa_cons (pe_call G_put_in (hr.mono (by omega)) (by rfl) T.g_put_in T.f_put_in.kp T.b_put_in .nil (passes_call (takes_of rfl rfl rfl rfl) (fun _ _ _ _ h => h)) (pa_cons (pe_fld (pv 0) rfl) (pa_cons (pv 1) (pa_cons (pv 2) (pa_cons (pv 3) (pa_cons (pv 4) (pa_cons (pv 5) pa_nil))))))) pa_nil)))), ?_⟩
    obtain ⟨⟨dx, he⟩, hl⟩ := id hE
    exact ⟨_, rfl, ev, dx, _, rfl, he, rfl, _, rfl, ev, A.a_Evening, dx, _, _, rfl, he, T.cl_Ev, T.nEvC, rfl, _, rfl, _, rfl, _, rfl, _, rfl, _, rfl, c, m, b, now, l, h, i, ss, ds, ys, lo, hi, hk, wt, rk, n, rfl, hC.up f2_same, M.up f2_same, B.up f2_same, O, yl, w0, bd, nn, hn, l1, lh, i0, lt, ra⟩
def spStateE (K : PySem.W.Frag) (CM CC CE : Addr) : Sp := fun vs H Q _ => ∃ (e l c m b : Addr) (past : List V) (now : Int) (ss ds : List (Str × Int)) (ys : List Str) (lo hi : Str → Int) (ws es : List PyData) (n : Str), vs = [.ref e, .str n] ∧ EvF CE H e l c past ∧ CoF CC (f2 H e l) c now m b ss ds ∧ MlAt K CM (f2 H e l) m ys lo hi ws es ∧ ys.Nodup ∧ n ∈ ys ∧ ∀ t H', EvF CE H' e l c past → Same (f2 H e l) (f2 H' e l) → Dp K (f2 H' e l) (.ref t) (stD ss ds n) → Q (.ref t) H'
theorem tp_stD {ss ds : List (Str × Int)} {n : Str} : tp (stD ss ds n) = true := by
  unfold stD
  cases look ss n with
  | none => rfl
  | some i =>
    dsimp only
    cases look ds n with
    | none => rfl
    | some j => rfl
theorem ok_stateE (T : Txt K mg A) : FnOk P w K mg base CX0 4 A.a_Evening_state A.d_Evening_state P_Evening_state (spStateE K A.a_Meal A.a_Course A.a_Evening) := by
  have G_state_of : FnOk P w K mg base CX0 3 A.a_state_of A.d_state_of P_state_of (spStateOf K A.a_Meal A.a_Course) := ok_stateof T
  refine T.f_Evening_state.ok sc_Evening_state (fun vs H Q E h => ?_) (fun cdv A' outer s H vs Q E hr h => ?_)
  · obtain ⟨e, l, c, m, b, past, now, ss, ds, ys, lo, hi, ws, es, n, rfl, _⟩ := h
    rfl
  · obtain ⟨e, l, c, m, b, past, now, ss, ds, ys, lo, hi, ws, es, n, rfl, hE, hC, M, nd, mn, k⟩ := h
    refine ⟨_, (pss_one (ps_ret (pe_call G_state_of (hr.mono (by omega)) (by rfl) T.g_state_of T.f_state_of.kp T.b_state_of .nil pass0 (pa_cons (pe_fld (pv 0) rfl) (pa_cons (pv 1) pa_nil))))), ?_⟩
    obtain ⟨⟨dx, he⟩, hl⟩ := id hE
    exact ⟨_, rfl, e, A.a_Evening, dx, _, _, rfl, he, T.cl_Ev, T.nEvC, rfl, _, rfl, c, m, b, now, ss, ds, ys, lo, hi, ws, es, n, rfl, hC.up f2_same, M.up f2_same, nd, mn, fun t H' s _ hD => k t H' (hE.up s) (f2_mono s) ((hE.up s).dp hD tp_stD)⟩
def spMinuteE (CC CE : Addr) : Sp := fun vs H Q _ => ∃ (e l c m b : Addr) (past : List V) (now : Int) (ss ds : List (Str × Int)), vs = [.ref e] ∧ EvF CE H e l c past ∧ CoF CC (f2 H e l) c now m b ss ds ∧ Q (.int now) H
theorem ok_minuteE (T : Txt K mg A) : FnOk P w K mg base CX0 1 A.a_Evening_minute A.d_Evening_minute P_Evening_minute (spMinuteE A.a_Course A.a_Evening) := by
  refine T.f_Evening_minute.ok sc_Evening_minute (fun vs H Q E h => ?_) (fun cdv A' outer s H vs Q E hr h => ?_)
  · obtain ⟨e, l, c, m, b, past, now, ss, ds, rfl, _⟩ := h
    rfl
  · obtain ⟨e, l, c, m, b, past, now, ss, ds, rfl, hE, hC, k⟩ := h
    refine ⟨_, (pss_one (ps_ret (pe_fld (pe_fld (pv 0) rfl) rfl))), ?_⟩
    obtain ⟨⟨dx, he⟩, hl⟩ := hE
    obtain ⟨dxc, qs, qd, h1, _⟩ := hC
    exact ⟨_, rfl, e, A.a_Evening, dx, _, _, rfl, he, T.cl_Ev, T.nEvC, rfl, c, A.a_Course, dxc, _, _, rfl, f2_same _ _ h1, T.cl_Co, T.nCoP, rfl, k⟩
def spUndo (K : PySem.W.Frag) (CE : Addr) : Sp := fun vs H Q _ => ∃ (e l c c0 : Addr) (past : List V), vs = [.ref e] ∧ EvF CE H e l c (past ++ [.ref c0]) ∧ past.length ≤ 900 ∧ ∀ H', EvF CE H' e l c0 past → f2 H' e l = f2 H e l → Q .non H'
theorem ok_undo (T : Txt K mg A) : FnOk P w K mg base CX0 1 A.a_Evening_undo A.d_Evening_undo P_Evening_undo (spUndo K A.a_Evening) := by
  refine T.f_Evening_undo.ok sc_Evening_undo (fun vs H Q E h => ?_) (fun cdv A' outer s H vs Q E hr h => ?_)
  · obtain ⟨e, l, c, c0, past, rfl, _⟩ := h
    rfl
  · obtain ⟨e, l, c, c0, past, rfl, ⟨⟨dx, he⟩, hl⟩, pl, k⟩ := h
    refine ⟨_, (pss_cons (ps_if (pt_cmpR op_eq (pe_callB call_len_seq (by rfl) T.len PySem.boot_len (pa_cons (pe_fld (pv 0) rfl) pa_nil)) pe_int (nomark _))
 (pss_one ps_never)
 pss_nil)
 (pss_one (ps_fld (pv 0) (pe_bm0 PySem.F.plainAttrs_list PySem.F.slot_list_pop PySem.F.type_list_pop mt_pop (pe_fld (pv 0) rfl)) rfl))), ?_⟩
    have nle : l ≠ e := fun z => by rw [z, he] at hl; cases hl
    refine ⟨_, rfl, e, A.a_Evening, dx, _, _, rfl, he, T.cl_Ev, T.nEvP, rfl, l, _, rfl, .inl (SqL.of hl), rfl, _, rfl, ite2 (fun c1 => ?_) (fun _ => ?_)⟩
    · have := V.int.inj (of_decide_eq_true c1)
      rw [List.length_append] at this
      simp at this
      omega
    refine ⟨_, rfl, e, A.a_Evening, dx, _, _, rfl, he, T.cl_Ev, T.nEvP, rfl, .inl ⟨rfl, _, SqL.of hl⟩, l, _, .ref c0, rfl, rfl, hl, by simp, ?_⟩
    have he1 : upd H l (.lst (past ++ [V.ref c0]).dropLast) e = some (.ins A.a_Evening dx [("course", .ref c), ("past", .ref l)]) := by rw [upd_ne nle.symm]; exact he
    refine ⟨_, rfl, e, A.a_Evening, dx, _, rfl, he1, T.cl_Ev, T.nEvC, by show 2 < 1000; decide, ?_⟩
    refine k _ ⟨⟨dx, upd_same⟩, by rw [upd_ne nle, upd_same, List.dropLast_concat]⟩ ?_
    funext x
    by_cases e1 : x = e
    · subst e1; unfold f2 er; simp
    · by_cases e2 : x = l
      · subst e2; unfold f2 er; simp
      · unfold f2 er; simp [e1, e2, upd_ne]
end
end K5
set_option Elab.async false
set_option linter.all false
set_option maxRecDepth 100000
set_option maxHeartbeats 4000000
namespace K5
open PySem L2
local macro_rules | `(tactic| walk_at "rd1") => `(tactic| first
  | refine ⟨_, _, rfl, rfl, ?_⟩
  | refine ⟨_, _, _, _, rfl, rfl, SqL.of (by assumption), rfl, ?_⟩
  | refine ⟨_, _, _, _, rfl, rfl, (by assumption), rfl, ?_⟩
  | refine .inl ⟨_, rfl, ?_⟩
  | refine ⟨_, rfl, ?_⟩
  | refine ⟨(by unfold CMul; omega), ?_⟩
  | refine ⟨(by unfold CPow; omega), ?_⟩
  | refine ⟨(by (try dsimp only); omega), ?_⟩
  | refine ⟨(by unfold CDiv; omega), ?_⟩
  | fail "rd1")
local macro_rules | `(tactic| walk_at "rd") => `(tactic| repeat' (walk_at "rd1"))
open Own
section
variable {P : Program} {w : World} {K : PySem.W.Frag} {mg : Str → Option Value} {base : Heap} {A : Ad}
def spRefused (K : PySem.W.Frag) (CM CC CB CE C1 C2 C3 : Addr) : Sp := fun vs H Q _ => ∃ (e : Addr) (wd n word no : Str) (k : Int), vs = [.ref e, .str wd, .str n, .int k] ∧
  ((wd = "go" ∧ word = "overdue" ∧ ∀ Q' E, RaN C1 no H E → spGoEX K CM CC CB CE C1 [.ref e, .int k] H Q' E) ∨ (wd = "call" ∧ word = "soon" ∧ ∀ Q' E, RaN C2 no H E → spCallEX K CM CC CE C2 [.ref e, .str n] H Q' E) ∨
   (wd = "put" ∧ word = "early" ∧ ∀ Q' E, RaN C3 no H E → spPutEX K CM CC CB CE C3 [.ref e, .str "pan", .int 1, .int 2, .str "clock", .int k] H Q' E)) ∧
  ∀ t H', Same H H' → H' t = some (.tup [.str word, .str no]) → Q (.ref t) H'
def EchR (C1 C2 C3 : Addr) (Q : VK) : XK := fun cls d H' => ∃ (dd : Addr) (y : V), d = some dd ∧ H' dd = some (.xd [("name", y)]) ∧ ((cls = .ref C1 ∧ ∀ t, H' t = none → Q (.ref t) (upd H' t (.tup [.str "overdue", y]))) ∨ (cls = .ref C2 ∧ ∀ t, H' t = none → Q (.ref t) (upd H' t (.tup [.str "soon", y]))) ∨ (cls = .ref C3 ∧ ∀ t, H' t = none → Q (.ref t) (upd H' t (.tup [.str "early", y]))))
def RB (K : PySem.W.Frag) (CM CC CB CE C1 C2 C3 : Addr) (Ech : XK) : TS :=
  tIfS (tTest (tOp rEq (tVar 1) (tC (V.str (Str.ofString "go"))))) (tAsg (tMeth CE (Str.ofString "go") (spGoEX K CM CC CB CE C1) [] Ech (tVar 0) (tCons (tVar 3) tNil)) (gName 4))
    (tIfS (tTest (tOp rEq (tVar 1) (tC (V.str (Str.ofString "call"))))) (tAsg (tMeth CE (Str.ofString "call") (spCallEX K CM CC CE C2) [] Ech (tVar 0) (tCons (tVar 2) tNil)) (gName 4))
      (tAsg (tMeth CE (Str.ofString "put") (spPutEX K CM CC CB CE C3) [] Ech (tVar 0) (tCons (tC (V.str (Str.ofString "pan"))) (tCons (tC (V.int 1)) (tCons (tC (V.int 2)) (tCons (tC (V.str (Str.ofString "clock"))) (tCons (tVar 3) tNil)))))) (gName 4)))
theorem six {α : Type} {xs : List α} (h : xs.length = 6) : ∃ a b c d e f, xs = [a, b, c, d, e, f] := match xs, h with | [a, b, c, d, e, f], _ => ⟨a, b, c, d, e, f, rfl⟩
theorem ok_refused (T : Txt K mg A) : FnOk P w K mg base CX0 11 A.a__law_refused A.d__law_refused P__law_refused (spRefused K A.a_Meal A.a_Course A.a_Book A.a_Evening A.a_Overdue A.a_TooSoon A.a_TooEarly) := by
  have G_Evening_go : FnOk P w K mg base (L2.CX P w) 8 A.a_Evening_go A.d_Evening_go P_Evening_go (spGoEX K A.a_Meal A.a_Course A.a_Book A.a_Evening A.a_Overdue) := ok_goEX T
  have G_Evening_call : FnOk P w K mg base (L2.CX P w) 8 A.a_Evening_call A.d_Evening_call P_Evening_call (spCallEX K A.a_Meal A.a_Course A.a_Evening A.a_TooSoon) := ok_callEX T
  have G_Evening_put : FnOk P w K mg base (L2.CX P w) 10 A.a_Evening_put A.d_Evening_put P_Evening_put (spPutEX K A.a_Meal A.a_Course A.a_Book A.a_Evening A.a_TooEarly) := ok_putEX T
  refine T.f__law_refused.ok sc__law_refused (fun vs H Q E h => ?_) (fun cdv A' outer s H vs Q E hr h => ?_)
  · obtain ⟨e, wd, n, word, no, k, rfl, _⟩ := h
    rfl
  · obtain ⟨e, wd, n, word, no, k, rfl, hc, q⟩ := h
    refine ⟨_, pss_cons (Own.ps_clauses
      (tb := fun (W : WX) D σ H => ∃ Ech : XK, (∀ (cls : Value) (d : Option Addr) (σ' : St) (H' : Hp), Ech cls d H' → σ'.length = 6 → W cls d σ' H') ∧ RB K A.a_Meal A.a_Course A.a_Book A.a_Evening A.a_Overdue A.a_TooSoon A.a_TooEarly Ech D σ H)
      rfl rfl sc__law_refused.nd takes0 (fun W pn xe tk _ => ?_)
      (.named (i := 5) rfl rfl ⟨rfl, by decide, .inl T.g_Overdue⟩ (fun a oe cls d pn hz hf => pss_one (ps_set (i := 4) sc__law_refused.nd rfl (Or.inl rfl) (pe_tup (pa_cons pe_str (pa_cons (pe_xf T.xfOv T.nOv hz hf (pv 5)) pa_nil)))))
        (.named (i := 5) rfl rfl ⟨rfl, by decide, .inl T.g_TooSoon⟩ (fun a oe cls d pn hz hf => pss_one (ps_set (i := 4) sc__law_refused.nd rfl (Or.inl rfl) (pe_tup (pa_cons pe_str (pa_cons (pe_xf T.xfTs T.nTs hz hf (pv 5)) pa_nil)))))
          (.named (i := 5) rfl rfl ⟨rfl, by decide, .inl T.g_TooEarly⟩ (fun a oe cls d pn hz hf => pss_one (ps_set (i := 4) sc__law_refused.nd rfl (Or.inl rfl) (pe_tup (pa_cons pe_str (pa_cons (pe_xf T.xfTe T.nTe hz hf (pv 5)) pa_nil))))) .nil)))) (pss_one (ps_ret (pv 4))), ?_⟩
    · refine ⟨fun pins s' σ H D I h' => ?_⟩
      obtain ⟨Ech, hW, h1⟩ := h'
      exact PSs.run (pss_one (ps_if (pt_cmpR op_eq (pv 1) pe_str (nomark _)) (pss_one (ps_set (i := 4) sc__law_refused.nd rfl (Or.inl rfl) (pe_meth (pv 0) T.cl_Ev T.m_goE G_Evening_go (hr.mono (by omega)) T.b_Evening_go .nil (passes_call (takes_len tk) hW) (pa_cons (pv 3) pa_nil))))
        (pss_one (ps_if (pt_cmpR op_eq (pv 1) pe_str (nomark _)) (pss_one (ps_set (i := 4) sc__law_refused.nd rfl (Or.inl rfl) (pe_meth (pv 0) T.cl_Ev T.m_callE G_Evening_call (hr.mono (by omega)) T.b_Evening_call .nil (passes_call (takes_len tk) hW) (pa_cons (pv 2) pa_nil))))
          (pss_one (ps_set (i := 4) sc__law_refused.nd rfl (Or.inl rfl) (pe_meth (pv 0) T.cl_Ev T.m_putE G_Evening_put (hr.mono (by omega)) T.b_Evening_put .nil (passes_call (takes_len tk) hW) (pa_cons pe_str (pa_cons pe_int (pa_cons pe_int (pa_cons pe_str (pa_cons (pv 3) pa_nil)))))))))))) pins s' σ H D I h1
    · refine ⟨EchR A.a_Overdue A.a_TooSoon A.a_TooEarly Q, ?_, ?_⟩
      · rintro cls d σ' H' ⟨dd, y, rfl, hdd, h⟩ hl
        obtain ⟨x0, x1, x2, x3, x4, x5, rfl⟩ := six hl
        rcases h with ⟨rfl, kk⟩ | ⟨rfl, kk⟩ | ⟨rfl, kk⟩
        · refine ⟨true, T.eOv, fun _ a ha => ?_, fun z => nomatch z⟩
          exact ⟨_, rfl, rfl, rfl, dd, _, y, rfl, hdd, rfl, by show 2 ≤ sizeLine; decide, fun t ht => ⟨_, rfl, kk t ht⟩⟩
        · refine ⟨false, T.eTsOv, (fun z => nomatch z), fun _ => ⟨true, T.eTs, fun _ a ha => ?_, fun z => nomatch z⟩⟩
          exact ⟨_, rfl, rfl, rfl, dd, _, y, rfl, hdd, rfl, by show 2 ≤ sizeLine; decide, fun t ht => ⟨_, rfl, kk t ht⟩⟩
        · refine ⟨false, T.eTeOv, (fun z => nomatch z), fun _ => ⟨false, T.eTeTs, (fun z => nomatch z), fun _ => ⟨true, T.eTe, fun _ a ha => ?_, fun z => nomatch z⟩⟩⟩
          exact ⟨_, rfl, rfl, rfl, dd, _, y, rfl, hdd, rfl, by show 2 ≤ sizeLine; decide, fun t ht => ⟨_, rfl, kk t ht⟩⟩
      · rcases hc with ⟨rfl, rfl, hg⟩ | ⟨rfl, rfl, hg⟩ | ⟨rfl, rfl, hg⟩
        · have ra : RaN A.a_Overdue no H (EchR A.a_Overdue A.a_TooSoon A.a_TooEarly Q) := fun y dd H' s e1 e2 => ⟨dd, y, rfl, e1, .inl ⟨rfl, fun t nt => q t _ (s.trans (Same.new nt)) (by rw [upd_same, e2])⟩⟩
          obtain ⟨e1, l, c, m, b, past, now, mi, ss, ds, ys, lo, hi, ws, es, hk, wt, no2, hv, ⟨⟨dx, he⟩, hl⟩, _⟩ := hg (fun _ _ => False) _ ra
          cases hv
          exact ⟨_, rfl, rfl, _, rfl, ite2 (fun _ => ⟨_, rfl, e, dx, _, rfl, he, rfl, _, rfl, hg (fun _ _ => False) _ ra⟩) (fun c1 => absurd (by decide +kernel) c1)⟩
        · have ra : RaN A.a_TooSoon no H (EchR A.a_Overdue A.a_TooSoon A.a_TooEarly Q) := fun y dd H' s e1 e2 => ⟨dd, y, rfl, e1, .inr (.inl ⟨rfl, fun t nt => q t _ (s.trans (Same.new nt)) (by rw [upd_same, e2])⟩)⟩
          obtain ⟨e1, l, c, m, b, past, now, ss, ds, ys, lo, hi, ws, es, n2, i2, hv, ⟨⟨dx, he⟩, hl⟩, _⟩ := hg (fun _ _ => False) _ ra
          cases hv
          exact ⟨_, rfl, rfl, _, rfl, ite2 (fun c1 => absurd c1 (by decide +kernel)) (fun _ => ⟨_, rfl, rfl, _, rfl, ite2 (fun _ => ⟨_, rfl, e, dx, _, rfl, he, rfl, _, rfl, hg (fun _ _ => False) _ ra⟩) (fun c1 => absurd (by decide +kernel) c1)⟩)⟩
        · have ra : RaN A.a_TooEarly no H (EchR A.a_Overdue A.a_TooSoon A.a_TooEarly Q) := fun y dd H' s e1 e2 => ⟨dd, y, rfl, e1, .inr (.inr ⟨rfl, fun t nt => q t _ (s.trans (Same.new nt)) (by rw [upd_same, e2])⟩)⟩
          obtain ⟨e1, l, c, m, b, past, now, l1, h1, i1, ss, ds, ys, lo, hi, hk, wt, rk, n2, hv, ⟨⟨dx, he⟩, hl⟩, _⟩ := hg (fun _ _ => False) _ ra
          cases hv
          exact ⟨_, rfl, rfl, _, rfl, ite2 (fun c1 => absurd c1 (by decide +kernel)) (fun _ => ⟨_, rfl, rfl, _, rfl, ite2 (fun c1 => absurd c1 (by decide +kernel)) (fun _ => ⟨_, rfl, e, dx, _, rfl, he, rfl, _, rfl, hg (fun _ _ => False) _ ra⟩)⟩)⟩
end
end K5
set_option Elab.async false
set_option linter.all false
set_option maxRecDepth 100000
set_option maxHeartbeats 4000000
namespace K5
open PySem L2
local macro_rules | `(tactic| walk_at "rd1") => `(tactic| first
  | refine ⟨_, _, rfl, rfl, ?_⟩
  | refine ⟨_, _, _, _, rfl, rfl, SqL.of (by assumption), rfl, ?_⟩
  | refine ⟨_, _, _, _, rfl, rfl, (by assumption), rfl, ?_⟩
  | refine .inl ⟨_, rfl, ?_⟩
  | refine ⟨_, rfl, ?_⟩
  | refine ⟨(by unfold CMul; omega), ?_⟩
  | refine ⟨(by unfold CPow; omega), ?_⟩
  | refine ⟨(by (try dsimp only); omega), ?_⟩
  | refine ⟨(by unfold CDiv; omega), ?_⟩
  | fail "rd1")
local macro_rules | `(tactic| walk_at "rd") => `(tactic| repeat' (walk_at "rd1"))
open Own
section
variable {P : Program} {w : World} {K : PySem.W.Frag} {mg : Str → Option Value} {base : Heap} {A : Ad}
def hk2 (o : Str) : Str → Str := fun x => if x = o then "clock" else o
def v2 (o : Str) (a b : Int) : Str → Int := fun x => if x = o then a else b
theorem hk2_o {o : Str} : hk2 o o = "clock" := if_pos rfl
theorem hk2_t {o t : Str} (n : t ≠ o) : hk2 o t = o := if_neg n
theorem v2_o {o : Str} {a b : Int} : v2 o a b o = a := if_pos rfl
theorem v2_t {o t : Str} {a b : Int} (n : t ≠ o) : v2 o a b t = b := if_neg n
/-- what one dish adds to those that start -/
def contrib (hk : Str → Str) (wt : Str → Int) (ss ds : List (Str × Int)) (mi : Int) (n : Str) : List (Str × Int) := if (look ss n).isNone then (match dueF hk wt ds n with | some i => if i ≤ mi then [(n, i)] else [] | none => []) else []
theorem fresh_flat {hk : Str → Str} {wt : Str → Int} {ss ds : List (Str × Int)} {mi : Int} : ∀ ys : List Str, freshL hk wt ss ds mi ys = ys.flatMap (contrib hk wt ss ds mi)
  | [] => rfl
  | n :: ys => by
    have ih := fresh_flat (hk := hk) (wt := wt) (ss := ss) (ds := ds) (mi := mi) ys
    unfold freshL pairsL duesL at ih ⊢
    rw [List.flatMap_cons, ← ih]
    unfold contrib
    cases el : (look ss n).isNone with
    | false => simp only [List.filter_cons, el, Bool.false_eq_true, if_false, List.nil_append]
    | true =>
      simp only [List.filter_cons, el, if_true, List.map_cons]
      cases ed : dueF hk wt ds n with
      | none => rw [List.filterMap_cons_none rfl]; rfl
      | some i =>
        by_cases c : i ≤ mi
        · rw [List.filterMap_cons_some (b := (n, i)) (by dsimp only; rw [if_pos c])]; simp [c]
        · rw [List.filterMap_cons_none (by dsimp only; rw [if_neg c])]; simp [c]
theorem perm2 {α : Type} {a b : α} {xs : List α} (p : xs.Perm [a, b]) : xs = [a, b] ∨ xs = [b, a] := by
  have l := p.length_eq
  obtain ⟨x, y, rfl⟩ : ∃ x y, xs = [x, y] := match xs, l with | [x, y], _ => ⟨x, y, rfl⟩
  have mx := p.mem_iff.mp (List.mem_cons_self (a := x) (l := [y]))
  rcases List.mem_cons.mp mx with rfl | m
  · exact .inl (by rw [List.perm_singleton.mp p.cons_inv])
  · obtain rfl := List.mem_singleton.mp m
    exact .inr (by rw [List.perm_singleton.mp (p.trans (List.Perm.swap _ _ _)).cons_inv])
theorem fresh_o {o t : Str} {ys : List Str} {hk : Str → Str} {wt : Str → Int} {ss ds : List (Str × Int)} {mi : Int} {a : List (Str × Int)} (p : ys.Perm [o, t]) (h1 : contrib hk wt ss ds mi o = a) (h2 : contrib hk wt ss ds mi t = []) : freshL hk wt ss ds mi ys = a := by
  rw [fresh_flat]
  rcases perm2 p with rfl | rfl <;> simp [h1, h2]
theorem fresh_t {o t : Str} {ys : List Str} {hk : Str → Str} {wt : Str → Int} {ss ds : List (Str × Int)} {mi : Int} {a : List (Str × Int)} (p : ys.Perm [o, t]) (h1 : contrib hk wt ss ds mi o = []) (h2 : contrib hk wt ss ds mi t = a) : freshL hk wt ss ds mi ys = a := by
  rw [fresh_flat]
  rcases perm2 p with rfl | rfl <;> simp [h1, h2]
theorem con_in {hk : Str → Str} {wt : Str → Int} {ss ds : List (Str × Int)} {mi : Int} {n : Str} {i : Int} (h : look ss n = some i) : contrib hk wt ss ds mi n = [] := by
  unfold contrib; rw [h]; rfl
theorem con_none {hk : Str → Str} {wt : Str → Int} {ss ds : List (Str × Int)} {mi : Int} {n : Str} (h : dueF hk wt ds n = none) : contrib hk wt ss ds mi n = [] := by
  unfold contrib; rw [h]; split <;> rfl
theorem con_late {hk : Str → Str} {wt : Str → Int} {ss ds : List (Str × Int)} {mi : Int} {n : Str} {i : Int} (h : dueF hk wt ds n = some i) (l : mi < i) : contrib hk wt ss ds mi n = [] := by
  unfold contrib; rw [h]; dsimp only; rw [if_neg (show ¬ i ≤ mi by omega)]; split <;> rfl
theorem con_now {hk : Str → Str} {wt : Str → Int} {ss ds : List (Str × Int)} {mi : Int} {n : Str} {i : Int} (h0 : look ss n = none) (h : dueF hk wt ds n = some i) (l : i ≤ mi) : contrib hk wt ss ds mi n = [(n, i)] := by
  unfold contrib; rw [h, h0]; dsimp only; rw [if_pos l]; rfl
theorem due_o {o : Str} {w g : Int} {ds : List (Str × Int)} : dueF (hk2 o) (v2 o w g) ds o = some w := by
  unfold dueF; rw [if_pos hk2_o, v2_o]
theorem due_t {o t : Str} {w g : Int} {ds : List (Str × Int)} (n : t ≠ o) (c : o ≠ "clock") : dueF (hk2 o) (v2 o w g) ds t = (look ds o).map (· + g) := by
  unfold dueF; rw [hk2_t n, if_neg c, v2_t n]
/-- how an evening of two dishes stands -/
structure Stg (K : PySem.W.Frag) (CM CC CB CE : Addr) (F0 H : Hp) (e l m b : Addr) (past : List V) (ys : List Str) (o t : Str) (w g le mo now : Int) (ss ds : List (Str × Int)) : Prop where
  ex : ∃ c, EvF CE H e l c past ∧ CoF CC (f2 H e l) c now m b ss ds
  m : MlAt K CM (f2 H e l) m ys (v2 o le 3) (v2 o (le + mo) (3 + mo)) [] []
  b : BkAt CB (f2 H e l) b ys (hk2 o) (v2 o w g)
  base : Same F0 (f2 H e l)
theorem Stg.at_ {CM CC CB CE : Addr} {F0 H : Hp} {e l m b : Addr} {past : List V} {ys : List Str} {o t : Str} {w g le mo now : Int} {ss ds : List (Str × Int)} (S : Stg K CM CC CB CE F0 H e l m b past ys o t w g le mo now ss ds) : ∃ dx c, H e = some (.ins CE dx [("course", .ref c), ("past", .ref l)]) := by
  obtain ⟨c, ⟨⟨dx, he⟩, _⟩, _⟩ := S.ex
  exact ⟨dx, c, he⟩
theorem Stg.up {CM CC CB CE : Addr} {F0 H H' : Hp} {e l m b : Addr} {past : List V} {ys : List Str} {o t : Str} {w g le mo now : Int} {ss ds : List (Str × Int)} (S : Stg K CM CC CB CE F0 H e l m b past ys o t w g le mo now ss ds) (s : Same H H') : Stg K CM CC CB CE F0 H' e l m b past ys o t w g le mo now ss ds := by
  obtain ⟨c, h1, h2⟩ := S.ex
  exact ⟨⟨c, h1.up s, h2.up (f2_mono s)⟩, S.m.up (f2_mono s), S.b.up (f2_mono s), S.base.trans (f2_mono s)⟩
/-- what is due, of the fresh ones -/
def prsD (fs : List (Str × Int)) : PyData := .list (fs.map fun r => .tuple [.int r.2, .str r.1])
theorem prs_dp {H : Hp} {l : Addr} {fs : List (Str × Int)} (h : PrsL K H l fs) : Dp K H (.ref l) (prsD fs) := by
  obtain ⟨bs, h1, h2⟩ := h
  refine .lst (SqL.of h1) ?_
  clear h1
  induction h2 with
  | nil => exact .nil
  | cons z _ ih => exact .cons (.tup z (.cons (.int _) (.cons (.str _) .nil))) ih
structure Two (ys : List Str) (o t : Str) : Prop where
  p : ys.Perm [o, t]
  n : t ≠ o
  c : o ≠ "clock"
  nmo : Nm o ∧ PyData.strOk o = true
  nmt : Nm t ∧ PyData.strOk t = true
theorem Two.nd {ys : List Str} {o t : Str} (W : Two ys o t) : ys.Nodup := W.p.nodup_iff.mpr (by simp; exact fun z => W.n z.symm)
theorem Two.len {ys : List Str} {o t : Str} (W : Two ys o t) : ys.length = 2 := W.p.length_eq
theorem Two.mo {ys : List Str} {o t : Str} (W : Two ys o t) : o ∈ ys := W.p.mem_iff.mpr (by simp)
theorem Two.mt {ys : List Str} {o t : Str} (W : Two ys o t) : t ∈ ys := W.p.mem_iff.mpr (by simp)
theorem Two.of {ys : List Str} {o t x : Str} (W : Two ys o t) (m : x ∈ ys) : x = o ∨ x = t := by
  have := W.p.mem_iff.mp m
  simpa using this
theorem Stg.go {CM CC CB CE : Addr} {F0 H : Hp} {e l m b : Addr} {past : List V} {ys : List Str} {o t : Str} {w g le mo now mi : Int} {ss ds : List (Str × Int)} {Q : VK} {E : XK}
    (S : Stg K CM CC CB CE F0 H e l m b past ys o t w g le mo now ss ds) (W : Two ys o t) (pl : past.length ≤ 900) (now' : Int) (fr ss' : List (Str × Int)) (m1 : 1 ≤ mi) (en : now + mi = now') (sN : (ss.map (·.1)).Nodup) (sl : ss.length ≤ 900) (dl : ds.length ≤ 900)
    (hf : freshL (hk2 o) (v2 o w g) ss ds now' ys = fr) (fl : fr.length ≤ 1) (es : ss ++ fr = ss') (ho : ∀ i, look ss' o = some i → look ds o = none → now' - i ≤ le + mo) (ht : ∀ i, look ss' t = some i → look ds t = none → now' - i ≤ 3 + mo)
    (k : ∀ l2 c H', CoF CC (f2 H e l) c now m b ss ds → Stg K CM CC CB CE F0 H' e l m b (past ++ [.ref c]) ys o t w g le mo now' ss' ds → Same (f2 H e l) (f2 H' e l) → Dp K (f2 H' e l) (.ref l2) (prsD fr) → Q (.ref l2) H') : spGoE K CM CC CB CE [.ref e, .int mi] H Q E := by
  subst en es
  obtain ⟨c, h1, h2⟩ := S.ex
  refine ⟨e, l, c, m, b, past, now, mi, ss, ds, ys, _, _, [], [], _, _, rfl, h1, pl, m1, h2, S.m, S.b, W.nd, by rw [W.len]; decide, sN, sl, dl, by rw [hf]; exact fl, fun n hn i => ?_, fun c' l2 H' a1 a2 a3 a4 => ?_⟩
  · rw [hf]
    rcases W.of hn with rfl | rfl
    · rw [v2_o]; exact ho i
    · rw [v2_t W.n]; exact ht i
  · rw [hf] at a3 a4
    exact k l2 c H' h2 ⟨⟨c', a1, a3⟩, S.m.up a2, S.b.up a2, S.base.trans a2⟩ a2 (prs_dp a4)
theorem Stg.call {CM CC CB CE : Addr} {F0 H : Hp} {e l m b : Addr} {past : List V} {ys : List Str} {o t : Str} {w g le mo now : Int} {n : Str} {ss ds : List (Str × Int)} {Q : VK} {E : XK}
    (S : Stg K CM CC CB CE F0 H e l m b past ys o t w g le mo now ss ds) (W : Two ys o t) (pl : past.length ≤ 900) (i : Int) (fr ss' ds' : List (Str × Int)) (sN : (ss.map (·.1)).Nodup) (sl : ss.length ≤ 900) (dl : ds.length ≤ 800) (dN : (ds.map (·.1)).Nodup) (mn : n ∈ ys) (els : look ss n = some i) (eld : look ds n = none) (lo : v2 o le 3 n ≤ now - i)
    (ed : ds ++ [(n, now)] = ds') (hf : freshL (hk2 o) (v2 o w g) ss ds' now ys = fr) (fl : fr.length ≤ 1) (es : ss ++ fr = ss')
    (k : ∀ l2 c H', Stg K CM CC CB CE F0 H' e l m b (past ++ [.ref c]) ys o t w g le mo now ss' ds' → Same (f2 H e l) (f2 H' e l) → Dp K (f2 H' e l) (.ref l2) (.list (fr.map fun r => .str r.1)) → Q (.ref l2) H') : spCallE K CM CC CB CE [.ref e, .str n] H Q E := by
  subst ed es
  obtain ⟨c, h1, h2⟩ := S.ex
  refine ⟨e, l, c, m, b, past, now, ss, ds, ys, _, _, [], [], _, _, n, i, rfl, h1, pl, h2, S.m, S.b, W.nd, by rw [W.len]; decide, sN, sl, dl, dN, mn, els, eld, lo, by rw [hf]; exact fl, fun c' l2 H' a1 a2 a3 a4 => ?_⟩
  rw [hf] at a3 a4
  refine k l2 c H' ⟨⟨c', a1, a3⟩, S.m.up a2, S.b.up a2, S.base.trans a2⟩ a2 (.lst (SqL.of a4) ?_)
  clear a3 a4 hf fl k
  induction fr with
  | nil => exact .nil
  | cons r fr ih => exact .cons (.str _) ih
theorem Stg.state {CM CC CB CE : Addr} {F0 H : Hp} {e l m b : Addr} {past : List V} {ys : List Str} {o t : Str} {w g le mo now : Int} {n : Str} {ss ds : List (Str × Int)} {Q : VK} {E : XK} {d : PyData}
    (S : Stg K CM CC CB CE F0 H e l m b past ys o t w g le mo now ss ds) (W : Two ys o t) (mn : n ∈ ys) (ed : stD ss ds n = d)
    (k : ∀ a H', Stg K CM CC CB CE F0 H' e l m b past ys o t w g le mo now ss ds → Same (f2 H e l) (f2 H' e l) → Dp K (f2 H' e l) (.ref a) d → Q (.ref a) H') : spStateE K CM CC CE [.ref e, .str n] H Q E := by
  obtain ⟨c, h1, h2⟩ := S.ex
  exact ⟨e, l, c, m, b, past, now, ss, ds, ys, _, _, [], [], n, rfl, h1, h2, S.m, W.nd, mn, fun a H' a1 a2 a3 => k a H' ⟨⟨c, a1, h2.up a2⟩, S.m.up a2, S.b.up a2, S.base.trans a2⟩ a2 (by rw [← ed]; exact a3)⟩
theorem Stg.undo {CM CC CB CE : Addr} {F0 H : Hp} {e l m b c0 : Addr} {past : List V} {ys : List Str} {o t : Str} {w g le mo now now0 : Int} {ss ds ss0 ds0 : List (Str × Int)} {Q : VK} {E : XK}
    (S : Stg K CM CC CB CE F0 H e l m b (past ++ [.ref c0]) ys o t w g le mo now ss ds) (h0 : CoF CC (f2 H e l) c0 now0 m b ss0 ds0) (pl : past.length ≤ 900)
    (k : ∀ H', Stg K CM CC CB CE F0 H' e l m b past ys o t w g le mo now0 ss0 ds0 → f2 H' e l = f2 H e l → Q .non H') : spUndo K CE [.ref e] H Q E := by
  obtain ⟨c, h1, h2⟩ := S.ex
  exact ⟨e, l, c, c0, past, rfl, h1, pl, fun H' a1 a2 => k H' ⟨⟨c0, a1, by rw [a2]; exact h0⟩, by rw [a2]; exact S.m, by rw [a2]; exact S.b, by rw [a2]; exact S.base⟩ a2⟩
theorem Stg.minute {CM CC CB CE : Addr} {F0 H : Hp} {e l m b : Addr} {past : List V} {ys : List Str} {o t : Str} {w g le mo now : Int} {ss ds : List (Str × Int)} {Q : VK} {E : XK}
    (S : Stg K CM CC CB CE F0 H e l m b past ys o t w g le mo now ss ds) (k : Q (.int now) H) : spMinuteE CC CE [.ref e] H Q E := by
  obtain ⟨c, h1, h2⟩ := S.ex
  exact ⟨e, l, c, m, b, past, now, ss, ds, rfl, h1, h2, k⟩
theorem mk_evening {CM CC CB CE : Addr} {H : Hp} {p b : Addr} {ys : List Str} {lo hi : Str → Int} {ws es : List PyData} {hk : Str → Str} {wt : Str → Int} {Q : Addr → Hp → Prop} {E : XK} (M : MlAt K CM H p ys lo hi ws es) (B : BkAt CB H b ys hk wt) (nd : ys.Nodup) (yl : ys.length < 64) (ok : ∀ n ∈ ys, PyData.strOk n = true) (f0 : freshL hk wt [] [] 0 ys = [])
    (k : ∀ e l c H', H e = none → H l = none → EvF CE H' e l c [] → Same H (f2 H' e l) → CoF CC (f2 H' e l) c 0 p b [] [] → Q e H') :
    ∀ e dx, H e = none → H dx = none → dx ≠ e → spEvInit K CM CC CB CE [.ref e, .ref p, .ref b] (upd (upd H dx (.own e)) e (.ins CE dx [])) (fun v H' => v = .non ∧ Q e H') E := by
  intro e dx np ndx ndp
  have sM : Same H (upd (upd H dx (.own e)) e (.ins CE dx [])) := fun b u q => by rw [upd_ne (ne_of_none q np), upd_ne (ne_of_none q ndx)]; exact q
  have sE : Same H (er (upd (upd H dx (.own e)) e (.ins CE dx [])) e) := fun b u q => er_of (ne_of_none q np) (sM _ _ q)
  exact ⟨e, dx, p, b, ys, lo, hi, ws, es, hk, wt, rfl, upd_same, M.up sE, B.up sE, nd, yl, ok, f0, fun c l H' s1 nl a1 a2 a3 => ⟨rfl, k e l c H' np (sM.free nl) ⟨⟨dx, a1⟩, a2⟩ (sE.trans s1) a3⟩⟩
theorem tn_nil {σ : St} {H : Hp} {k : List V → Hp → Prop} (h : k [] H) : tNil σ H k := h
theorem tc_one {σ : St} {H : Hp} {v : V} {k : List V → Hp → Prop} (h : k [v] H) : tCons (tC v) tNil σ H k := h
/-- refused: too soon a call, too long a way -/
theorem Stg.soon {CM CC CB CE C2 : Addr} {F0 H : Hp} {e l m b : Addr} {past : List V} {ys : List Str} {o t : Str} {w g le mo now i : Int} {n : Str} {ss ds : List (Str × Int)} {Q : VK} {E : XK}
    (S : Stg K CM CC CB CE F0 H e l m b past ys o t w g le mo now ss ds) (W : Two ys o t) (mn : n ∈ ys) (els : look ss n = some i) (eld : look ds n = none) (lt : now - i < v2 o le 3 n) (ra : RaN C2 n H E) : spCallEX K CM CC CE C2 [.ref e, .str n] H Q E := by
  obtain ⟨c, h1, h2⟩ := S.ex
  exact ⟨e, l, c, m, b, past, now, ss, ds, ys, _, _, [], [], n, i, rfl, h1, h2, S.m, W.nd, mn, els, eld, lt, ra⟩
theorem Stg.late {CM CC CB CE C1 : Addr} {F0 H : Hp} {e l m b : Addr} {past : List V} {ys : List Str} {o t : Str} {w g le mo now mi i : Int} {n : Str} {ss ds : List (Str × Int)} {Q : VK} {E : XK}
    (S : Stg K CM CC CB CE F0 H e l m b past ys o t w g le mo now ss ds) (W : Two ys o t) (m1 : 1 ≤ mi) (sN : (ss.map (·.1)).Nodup) (sl : ss.length ≤ 900) (dl : ds.length ≤ 900) (hf : freshL (hk2 o) (v2 o w g) ss ds (now + mi) ys = [])
    (mn : n ∈ ys) (els : look ss n = some i) (eld : look ds n = none) (lt : v2 o (le + mo) (3 + mo) n < now + mi - i) (oth : ∀ x ∈ ys, x ≠ n → look ss x = none ∨ ∃ j, look ds x = some j) (ra : RaN C1 n H E) : spGoEX K CM CC CB CE C1 [.ref e, .int mi] H Q E := by
  obtain ⟨c, h1, h2⟩ := S.ex
  refine ⟨e, l, c, m, b, past, now, mi, ss, ds, ys, _, _, [], [], _, _, n, rfl, h1, m1, h2, S.m, S.b, W.nd, by rw [W.len]; decide, sN, sl, dl, by rw [hf]; decide, mn, ⟨i, by rw [hf, List.append_nil]; exact els, eld, lt⟩, fun x mx j hj hd _ => ?_, ra⟩
  rw [hf, List.append_nil] at hj
  by_cases ex : x = n
  · exact ex
  · rcases oth x mx ex with z | ⟨j2, z⟩
    · rw [z] at hj; cases hj
    · rw [z] at hd; cases hd
theorem Stg.early {CM CC CB CE C3 : Addr} {F0 H : Hp} {e l m b : Addr} {past : List V} {ys : List Str} {o t : Str} {w g le mo now i : Int} {ss ds : List (Str × Int)} {Q : VK} {E : XK}
    (S : Stg K CM CC CB CE F0 H e l m b past ys o t w g le mo now ss ds) (W : Two ys o t) (w0 : 0 ≤ w) (g0 : 0 ≤ g) (l1 : 1 ≤ le) (m0 : 0 ≤ mo) (i0 : 0 ≤ i) (lt : i < now) (hO : ∃ rk, ROk rk (rowsF ys (hk2 o))) (np : ("pan" : Str) ∉ ys) (ra : RaN C3 "pan" H E) : spPutEX K CM CC CB CE C3 [.ref e, .str "pan", .int 1, .int 2, .str "clock", .int i] H Q E := by
  obtain ⟨c, h1, h2⟩ := S.ex
  obtain ⟨rk, O⟩ := hO
  refine ⟨e, l, c, m, b, past, now, 1, 2, i, ss, ds, ys, _, _, _, _, rk, "pan", rfl, h1, h2, S.m, S.b, O, by rw [W.len]; decide, fun x mx => ?_, fun x mx => ?_, np, ⟨nm_dec (xs := ["pan"]) (by decide +kernel) "pan" (by simp), by decide +kernel⟩, by decide, by decide, i0, lt, ra⟩
  · rcases W.of mx with rfl | rfl
    · rw [v2_o]; exact w0
    · rw [v2_t W.n]; exact g0
  · rcases W.of mx with rfl | rfl
    · rw [v2_o, v2_o]; omega
    · rw [v2_t W.n, v2_t W.n]; omega
theorem Stg.put {CM CC CB CE : Addr} {F0 H : Hp} {e l m b q : Addr} {past : List V} {ys : List Str} {o t : Str} {w g le mo now : Int} {ss ds : List (Str × Int)} {u : HO} (S : Stg K CM CC CB CE F0 H e l m b past ys o t w g le mo now ss ds) (n : H q = none) : f2 (upd H q u) e l q = some u := by
  obtain ⟨c, ⟨⟨dx, he⟩, hl⟩, _⟩ := S.ex
  exact f2_of (fun z => by rw [z, he] at n; cases n) (fun z => by rw [z, hl] at n; cases n) upd_same
theorem joinAB {a b r : TS} {D : Ends} {rt : VK} {bk ct : St → Hp → Prop} {σ : St} {H : Hp} (Ex : St → Hp → Prop) (h : ∀ nx : St → Hp → Prop, (∀ σ H, Ex σ H → nx σ H) → tSeq a b { D with nx := nx } σ H) (hd : ∀ σ H, Ex σ H → r D σ H) : tNext { nx := tSeq a (tSeq b r) D, rt := rt, bk := bk, ct := ct } σ H := h (r D) hd
theorem Stg.to {CM CC CB CE : Addr} {F0 H : Hp} {e l m b : Addr} {past : List V} {ys : List Str} {o t : Str} {w g le mo now now2 : Int} {ss ds : List (Str × Int)} (S : Stg K CM CC CB CE F0 H e l m b past ys o t w g le mo now ss ds) (h : now = now2) : Stg K CM CC CB CE F0 H e l m b past ys o t w g le mo now2 ss ds := h ▸ S
end
end K5
set_option Elab.async false
set_option linter.all false
set_option maxRecDepth 100000
set_option maxHeartbeats 4000000
namespace K5
open PySem L2
local macro_rules | `(tactic| walk_at "rd1") => `(tactic| first
  | refine ⟨_, _, rfl, rfl, ?_⟩
  | refine ⟨_, _, _, _, rfl, rfl, SqL.of (by assumption), rfl, ?_⟩
  | refine ⟨_, _, _, _, rfl, rfl, (by assumption), rfl, ?_⟩
  | refine .inl ⟨_, rfl, ?_⟩
  | refine ⟨_, rfl, ?_⟩
  | refine ⟨(by unfold CMul; omega), ?_⟩
  | refine ⟨(by unfold CPow; omega), ?_⟩
  | refine ⟨(by (try dsimp only); omega), ?_⟩
  | refine ⟨(by unfold CDiv; omega), ?_⟩
  | fail "rd1")
local macro_rules | `(tactic| walk_at "rd") => `(tactic| repeat' (walk_at "rd1"))
open Own
section
variable {P : Program} {w : World} {K : PySem.W.Frag} {mg : Str → Option Value} {base : Heap} {A : Ad}
def spNum : Sp := fun vs H Q _ => ∃ (st c : Addr) (b : Int), vs = [.ref st] ∧ Sta H st c b ∧ b + 2 ≤ 1000000 ∧ ∀ (r : Int) (H' : Hp), Gs st c H H' (b + 2) → 2 ≤ r → r ≤ 90000001 → Q (.int r) H'
theorem ok_number (T : Txt K mg A) : FnOk P w K mg base CX0 3 A.a__law_number A.d__law_number P__law_number spNum := by
  have G__law_take : FnOk P w K mg base CX0 1 A.a__law_take A.d__law_take P__law_take spTake := ok_take T
  have G__law_one : FnOk P w K mg base CX0 2 A.a__law_one A.d__law_one P__law_one (spOne K) := ok_one T
  refine T.f__law_number.ok sc__law_number (fun vs H Q E h => ?_) (fun cdv A' outer s H vs Q E hr h => ?_)
  · obtain ⟨st, c, b, rfl, _⟩ := h
    rfl
  · obtain ⟨st, c, b, rfl, S, hb, k⟩ := h
    refine ⟨_, (pss_one (ps_ret (pe_op op_add pe_int (pe_call G__law_take (hr.mono (by omega)) (by rfl) T.g__law_take T.f__law_take.kp T.b__law_take .nil pass0 (pa_cons (pv 0) (pa_cons (pe_call G__law_one (hr.mono (by omega)) (by rfl) T.g__law_one T.f__law_one.kp T.b__law_one .nil pass0 (pa_cons (pv 0) (pa_cons (pe_lst (pa_cons pe_int (pa_cons pe_int (pa_cons pe_int pa_nil)))) pa_nil))) pa_nil)))))), ?_⟩
    refine ⟨_, rfl, _, rfl, by show 3 ≤ sizeLine; decide, fun l nl => ?_⟩
    have nls := S.ne nl
    have S1 := S.same (Same.new nl (o := .lst [.int 5, .int 1000, .int 90000000]))
    refine ⟨st, c, l, [.int 5, .int 1000, .int 90000000], b, rfl, S1, by omega, SqL.of (er_of nls upd_same), by decide, by decide, fun i v H2 hv g2 => ?_⟩
    have hv2 : ∃ r : Int, v = .int r ∧ 0 < r ∧ r ≤ 90000000 := by
      match i, hv with
      | 0, hv => cases hv; exact ⟨5, rfl, by decide, by decide⟩
      | 1, hv => cases hv; exact ⟨1000, rfl, by decide, by decide⟩
      | 2, hv => cases hv; exact ⟨90000000, rfl, by decide, by decide⟩
      | i + 3, hv => simp at hv
    obtain ⟨r0, rfl, r1, r2⟩ := hv2
    refine ⟨st, c, r0, b + 1, rfl, g2.sta, by omega, r1, by omega, fun r o hr0 hr1 S3 => ⟨_, _, rfl, rfl, ?_⟩⟩
    have g : Gs st c H H2 (b + 1) := ⟨g2.sta, (er_mono (Same.new nl)).trans g2.same⟩
    refine k _ _ ((g.trans (Gs.of_upd S3)).le (by omega) (by omega)) (by omega) (by omega)
def spOver (K : PySem.W.Frag) (CM CC CB CE : Addr) : Sp := fun vs H Q _ => ∃ (e l m b ln ls a1 a2 : Addr) (past : List V) (ys : List Str) (o t : Str) (w g le mo now i1 i2 i3 : Int) (ss ds : List (Str × Int)) (F0 : Hp), vs = [.ref e, .ref ln, .ref ls] ∧ Stg K CM CC CB CE F0 H e l m b past ys o t w g le mo now ss ds ∧ Two ys o t ∧ past.length ≤ 800 ∧
  (ss.map (·.1)).Nodup ∧ ss.length ≤ 900 ∧ ds.length ≤ 900 ∧ look ss o = some i1 ∧ look ds o = some i2 ∧ look ss t = some i3 ∧ look ds t = some now ∧ SqL K (f2 H e l) ln [.str o, .str t] ∧ f2 H e l ls = some (.lst [.ref a1, .ref a2]) ∧ SqT K (f2 H e l) a1 [.str "done", .int i1, .int i2] ∧ SqT K (f2 H e l) a2 [.str "done", .int i3, .int now] ∧
  ∀ H', Same F0 H' → Q (.bl true) H'
theorem ok_over (T : Txt K mg A) : FnOk P w K mg base CX0 10 A.a__law_is_over A.d__law_is_over P__law_is_over (spOver K A.a_Meal A.a_Course A.a_Book A.a_Evening) := by
  have G_Evening_go : FnOk P w K mg base CX0 8 A.a_Evening_go A.d_Evening_go P_Evening_go (spGoE K A.a_Meal A.a_Course A.a_Book A.a_Evening) := ok_goE T
  have G_Evening_state : FnOk P w K mg base CX0 4 A.a_Evening_state A.d_Evening_state P_Evening_state (spStateE K A.a_Meal A.a_Course A.a_Evening) := ok_stateE T
  have G_Evening_undo : FnOk P w K mg base CX0 1 A.a_Evening_undo A.d_Evening_undo P_Evening_undo (spUndo K A.a_Evening) := ok_undo T
  have G_Evening_minute : FnOk P w K mg base CX0 1 A.a_Evening_minute A.d_Evening_minute P_Evening_minute (spMinuteE A.a_Course A.a_Evening) := ok_minuteE T
  have G__law_same : FnOk P w K mg base CX0 3 A.a__law_same A.d__law_same P__law_same (spSame K 3) := ok_same T 3
  refine T.f__law_is_over.ok sc__law_is_over (fun vs H Q E h => ?_) (fun cdv A' outer s H vs Q E hr h => ?_)
  · obtain ⟨e, l, m, b, ln, ls, a1, a2, past, ys, o, t, w, g, le, mo, now, i1, i2, i3, ss, ds, F0, rfl, _⟩ := h
    rfl
  · obtain ⟨e, l, m, b, ln, ls, a1, a2, past, ys, o, t, w, g, le, mo, now, i1, i2, i3, ss, ds, F0, rfl, S, W, pl, sN, sl, dl, e1, e2, e3, e4, hn, hs, q1, q2, k⟩ := h
    refine ⟨_, (pss_cons (ps_set (i := 3) sc__law_is_over.nd rfl (Or.inl rfl) (pe_lst (pa_cons (pe_meth (pv 0) T.cl_Ev T.m_stateE G_Evening_state (hr.mono (by omega)) T.b_Evening_state .nil pass0 (pa_cons (pe_ix ix_list (pv 1) pe_int (fun _ _ => rfl)) pa_nil)) (pa_cons (pe_meth (pv 0) T.cl_Ev T.m_stateE G_Evening_state (hr.mono (by omega)) T.b_Evening_state .nil pass0 (pa_cons (pe_ix ix_list (pv 1) pe_int (fun _ _ => rfl)) pa_nil)) (pa_cons (pe_meth (pv 0) T.cl_Ev T.m_goE G_Evening_go (hr.mono (by omega)) T.b_Evening_go .nil pass0 (pa_cons pe_int pa_nil)) pa_nil)))))
 (pss_cons (ps_expr (pe_meth0 (pv 0) T.cl_Ev T.m_undoE G_Evening_undo (hr.mono (by omega)) T.b_Evening_undo .nil pass0))
 (pss_one (ps_ret (pe_and (pe_call G__law_same (hr.mono (by omega)) (by rfl) T.g__law_same T.f__law_same.kp T.b__law_same .nil pass0 (pa_cons (pv 3) (pa_cons (pe_op op_cat (pv 2) (pe_lst (pa_cons (pe_lst pa_nil) pa_nil))) pa_nil))) (pe_one (pe_cmpR op_eq (pe_meth0 (pv 0) T.cl_Ev T.m_minuteE G_Evening_minute (hr.mono (by omega)) T.b_Evening_minute .nil pass0) (pe_ix ix_tup (pe_ix ix_list (pv 2) pe_int (fun _ _ => rfl)) pe_int (fun _ _ => rfl)) (nomark _)))))))), ?_⟩
    obtain ⟨dx, c0, he⟩ := S.at_
    have st1 : stD ss ds o = .tuple [.str "done", .int i1, .int i2] := by unfold stD; rw [e1]; dsimp only; rw [e2]
    have st2 : stD ss ds t = .tuple [.str "done", .int i3, .int now] := by unfold stD; rw [e3]; dsimp only; rw [e4]
    refine ⟨_, rfl, e, dx, _, rfl, he, rfl, _, rfl, ln, _, 0, _, rfl, rfl, sqUp hn f2_same, atI0 _ _, ?_⟩
    dsimp only [tNil, tCons, tC, List.nil_append, List.cons_append]
    refine S.state W W.mo st1 fun p1 H1 S1 f1 d1 => ?_
    obtain ⟨dx, c0, he⟩ := S1.at_
    refine ⟨_, rfl, e, dx, _, rfl, he, rfl, _, rfl, ln, _, 1, _, rfl, rfl, sqUp (sqUp hn f1) f2_same, atI_nat (j := 1) rfl, ?_⟩
    dsimp only [tNil, tCons, tC, List.nil_append, List.cons_append]
    refine S1.state W W.mt st2 fun p2 H2 S2 g2 d2 => ?_
    have d1 := dpSame g2 d1
    have f2' := f1.trans g2
    clear f1 g2
    obtain ⟨dx, c0, he⟩ := S2.at_
    have fr0 : freshL (hk2 o) (v2 o w g) ss ds (now + 999999999) ys = [] := fresh_o W.p (con_in e1) (con_in e3)
    refine ⟨_, rfl, e, dx, _, rfl, he, rfl, ?_⟩
    dsimp only [tNil, tCons, tC, List.nil_append, List.cons_append]
    refine S2.go W (by omega) (now + 999999999) [] ss (by decide) rfl sN sl dl fr0 (by decide) (List.append_nil _) (fun i _ h => by rw [e2] at h; cases h) (fun i _ h => by rw [e4] at h; cases h) fun p3 c3 H3 hC3 S3 g3 d3 => ?_
    have d1 := dpSame g3 d1
    have d2 := dpSame g3 d2
    have hC3 := hC3.up g3
    have F3 := f2'.trans g3
    clear f2' g3
    refine ⟨by show 3 ≤ sizeLine; decide, fun lf nlf => ?_⟩
    have s4 := Same.new nlf (o := .lst [.ref p1, .ref p2, .ref p3])
    obtain ⟨c9, ⟨⟨dx9, he9⟩, hl9⟩, _⟩ := S3.ex
    have hf4 : f2 (upd H3 lf (.lst [.ref p1, .ref p2, .ref p3])) e l lf = some (.lst [.ref p1, .ref p2, .ref p3]) := f2_of (fun z => by rw [z, he9] at nlf; cases nlf) (fun z => by rw [z, hl9] at nlf; cases nlf) upd_same
    have g4 := f2_mono (e := e) (l := l) s4
    have dF : Dp K (f2 (upd H3 lf (.lst [.ref p1, .ref p2, .ref p3])) e l) (.ref lf) (.list [.tuple [.str "done", .int i1, .int i2], .tuple [.str "done", .int i3, .int now], prsD []]) := .lst (SqL.of hf4) (.cons (dpSame g4 d1) (.cons (dpSame g4 d2) (.cons (dpSame g4 d3) .nil)))
    have S4 := S3.up s4
    have hC4 := hC3.up g4
    have F4 := F3.trans g4
    generalize upd H3 lf (.lst [.ref p1, .ref p2, .ref p3]) = H4 at S4 hC4 F4 dF ⊢
    clear hf4 g4 d1 d2 d3 S3 hC3 F3 s4 he9 hl9 nlf he
    obtain ⟨dx, c7, he⟩ := S4.at_
    refine ⟨_, rfl, e, dx, _, rfl, he, rfl, ?_⟩
    dsimp only [tNil, tCons, tC, List.nil_append, List.cons_append]
    refine S4.undo hC4 (by omega) fun H5 S5 ef => ?_
    rw [← ef] at dF F4
    refine ⟨_, rfl, _, rfl, Nat.zero_le _, fun a na => ⟨by show 1 ≤ sizeLine; decide, fun b2 nb => ?_⟩⟩
    have s6 := (Same.new na (o := .lst [])).trans (Same.new nb (o := .lst [.ref a]))
    have da : Dp K (upd (upd H5 a (.lst [])) b2 (.lst [.ref a])) (.ref a) (.list []) := .lst (SqL.of (Same.new nb _ _ upd_same)) .nil
    have hb2 : upd (upd H5 a (.lst [])) b2 (.lst [.ref a]) b2 = some (.lst [.ref a]) := upd_same
    refine cast_heap (b := upd (upd H5 a (.lst [])) b2 (.lst [.ref a])) rfl ?_
    generalize upd (upd H5 a (.lst [])) b2 (.lst [.ref a]) = H6 at s6 da hb2 ⊢
    have K6 : Same (f2 H5 e l) H6 := f2_same.trans s6
    refine ⟨ls, b2, _, _, rfl, rfl, K6 _ _ (F4 _ _ hs), hb2, by show 3 ≤ sizeLine; decide, fun p np => ?_⟩
    have s7 := Same.new np (o := .lst [.ref a1, .ref a2, .ref a])
    have K7 := K6.trans s7
    have dD : Dp K (upd H6 p (.lst [.ref a1, .ref a2, .ref a])) (.ref p) (.list [.tuple [.str "done", .int i1, .int i2], .tuple [.str "done", .int i3, .int now], .list []]) := .lst (SqL.of upd_same) (.cons (.tup (stUp (stUp q1 F4) K7) (.cons (.str _) (.cons (.int _) (.cons (.int _) .nil)))) (.cons (.tup (stUp (stUp q2 F4) K7) (.cons (.str _) (.cons (.int _) (.cons (.int _) .nil)))) (.cons (dpSame s7 da) .nil)))
    refine ⟨_, _, _, rfl, dpSame K7 dF, dD, by simp [PyData.depth, PyData.depthAll, prsD], by simp [wid, widAll, prsD], fun H8 s8 => ⟨true, rfl, iteT ?_⟩⟩
    have S8 := ((S5.up s6).up s7).up s8
    have K8 := K7.trans s8
    obtain ⟨dx, c8, he⟩ := S8.at_
    refine ⟨_, rfl, e, dx, _, rfl, he, rfl, ?_⟩
    dsimp only [tNil, tCons, tC, List.nil_append, List.cons_append]
    refine S8.minute ?_
    refine ⟨_, rfl, ls, _, 1, _, rfl, rfl, SqL.of (K8 _ _ (F4 _ _ hs)), atI_nat (j := 1) rfl, a2, _, 2, _, rfl, rfl, stUp (stUp q2 F4) K8, atI_nat (j := 2) rfl, rfl, ?_⟩
    rw [decide_eq_true rfl]
    exact k _ (S8.base.trans f2_same)
end
end K5
set_option Elab.async false
set_option linter.all false
set_option maxRecDepth 100000
set_option maxHeartbeats 4000000
namespace K5
open PySem L2
local macro_rules | `(tactic| walk_at "rd1") => `(tactic| first
  | refine ⟨_, _, rfl, rfl, ?_⟩
  | refine ⟨_, _, _, _, rfl, rfl, SqL.of (by assumption), rfl, ?_⟩
  | refine ⟨_, _, _, _, rfl, rfl, (by assumption), rfl, ?_⟩
  | refine .inl ⟨_, rfl, ?_⟩
  | refine ⟨_, rfl, ?_⟩
  | refine ⟨(by unfold CMul; omega), ?_⟩
  | refine ⟨(by unfold CPow; omega), ?_⟩
  | refine ⟨(by (try dsimp only); omega), ?_⟩
  | refine ⟨(by unfold CDiv; omega), ?_⟩
  | fail "rd1")
local macro_rules | `(tactic| walk_at "rd") => `(tactic| repeat' (walk_at "rd1"))
open Own
section
variable {P : Program} {w : World} {K : PySem.W.Frag} {mg : Str → Option Value} {base : Heap} {A : Ad}
theorem rok_two {o t : Str} (n : t ≠ o) (ho : Nm o ∧ PyData.strOk o = true) (ht : Nm t ∧ PyData.strOk t = true) : ROk (fun x => if x = o then 0 else 1) (rowsF [o, t] (hk2 o)) := by
  refine ⟨by rw [ksR_F]; simp; exact fun z => n z.symm, fun s m => ?_, by show 2 < 64; decide, fun k h m => ?_, fun s m => by split <;> decide⟩
  · rw [ksR_F] at m
    rcases List.mem_cons.mp m with rfl | m
    · exact ho
    · rw [List.mem_singleton.mp m]; exact ht
  · obtain ⟨mk, eh⟩ := of_mem_F m
    rcases List.mem_cons.mp mk with rfl | mk
    · exact .inl (eh.trans hk2_o)
    · obtain rfl := List.mem_singleton.mp mk
      refine .inr ⟨by rw [ksR_F, eh, hk2_t n]; exact List.mem_cons_self .., ?_⟩
      rw [eh, hk2_t n, if_pos rfl, if_neg n]
      decide
theorem rok_perm {rk : Str → Nat} {ns ys : List Str} {hk : Str → Str} (O : ROk rk (rowsF ns hk)) (p : ys.Perm ns) : ROk rk (rowsF ys hk) := by
  have nd := O.nd
  rw [ksR_F] at nd
  refine ⟨by rw [ksR_F]; exact p.nodup_iff.mpr nd, fun s m => O.nm s (by rw [ksR_F] at m ⊢; exact p.mem_iff.mp m), by have := O.len; rw [← ksR_len, ksR_F] at this ⊢; rw [p.length_eq]; exact this, fun k h m => ?_, fun s m => O.rkb s (by rw [ksR_F] at m ⊢; exact p.mem_iff.mp m)⟩
  obtain ⟨mk, eh⟩ := of_mem_F m
  have := O.acy k h (by rw [eh]; exact mem_F (p.mem_iff.mp mk))
  exact this.imp_right fun ⟨z1, z2⟩ => ⟨by rw [ksR_F] at z1 ⊢; exact p.mem_iff.mpr z1, z2⟩
theorem two_pr {H : Hp} {o t : Str} {a1 a2 : Addr} {f g : Str → V} (n : t ≠ o) (h1 : SqT K H a1 [f o, g o]) (h2 : SqT K H a2 [f t, g t]) : Pr2 K H [o, t] f g [(.inr o, .ref a1), (.inr t, .ref a2)] := (Pr2.nil.snoc h1).snoc h2
theorem merge_two {o t : Str} {a b : V} (n : t ≠ o) : mergeK [] [((.inr o : Key), a), (.inr t, b)] = [(.inr o, a), (.inr t, b)] := by
  rw [merge_all _ _ (by simp; exact fun z => n z.symm), List.nil_append]
theorem disp2 {H : Hp} {D t1 t2 : Addr} {x1 x2 : List V} {kv : List (Key × V)} (nD : H D = none) (n1 : upd H D (.dK []) t1 = none) (n2 : upd (upd H D (.dK [])) t1 (.tup x1) t2 = none) :
    upd (upd (upd H D (.dK [])) t1 (.tup x1)) t2 (.tup x2) D = some (.dK []) ∧ Same H (upd (upd (upd (upd H D (.dK [])) t1 (.tup x1)) t2 (.tup x2)) D (.dK kv)) ∧ upd (upd (upd (upd H D (.dK [])) t1 (.tup x1)) t2 (.tup x2)) D (.dK kv) D = some (.dK kv) ∧
    upd (upd (upd (upd H D (.dK [])) t1 (.tup x1)) t2 (.tup x2)) D (.dK kv) t1 = some (.tup x1) ∧ upd (upd (upd (upd H D (.dK [])) t1 (.tup x1)) t2 (.tup x2)) D (.dK kv) t2 = some (.tup x2) := by
  have d1 : D ≠ t1 := ne_of_none upd_same n1
  have d2 : D ≠ t2 := ne_of_none (Same.new n1 _ _ upd_same) n2
  have d3 : t1 ≠ t2 := ne_of_none upd_same n2
  refine ⟨by rw [upd_ne d2, upd_ne d1, upd_same], fun b u e => ?_, upd_same, by rw [upd_ne d1.symm, upd_ne d3, upd_same], by rw [upd_ne d2.symm, upd_same]⟩
  have nb := ne_of_none e nD
  rw [upd_ne nb]
  exact Same.new n2 _ _ (Same.new n1 _ _ (by rw [upd_ne nb]; exact e))
def spLaw (K : PySem.W.Frag) : Sp := fun vs H Q _ => ∃ (a : Addr) (ns : List Int), vs = [.ref a] ∧ SqL K H a (ns.map V.int) ∧ ns.length ≤ 63 ∧ ∀ H', Q (.bl true) H'
theorem ok_law (T : Txt K mg A) : FnOk P w K mg base CX0 13 A.a_law A.d_law P_law (spLaw K) := by
  have G__law_fresh : FnOk P w K mg base CX0 1 A.a__law_fresh A.d__law_fresh P__law_fresh (spFresh K) := ok_fresh T
  have G__law_one : FnOk P w K mg base CX0 2 A.a__law_one A.d__law_one P__law_one (spOne K) := ok_one T
  have G__law_names : FnOk P w K mg base CX0 3 A.a__law_names A.d__law_names P__law_names (spNames K) := ok_names T
  have G__law_number : FnOk P w K mg base CX0 3 A.a__law_number A.d__law_number P__law_number spNum := ok_number T
  have G__law_same : FnOk P w K mg base CX0 4 A.a__law_same A.d__law_same P__law_same (spSame K 4) := ok_same T 4
  have G__law_refused : FnOk P w K mg base CX0 11 A.a__law_refused A.d__law_refused P__law_refused (spRefused K A.a_Meal A.a_Course A.a_Book A.a_Evening A.a_Overdue A.a_TooSoon A.a_TooEarly) := ok_refused T
  have G__law_is_over : FnOk P w K mg base CX0 10 A.a__law_is_over A.d__law_is_over P__law_is_over (spOver K A.a_Meal A.a_Course A.a_Book A.a_Evening) := ok_over T
  have G_Meal___init__ : FnOk P w K mg base CX0 5 A.a_Meal___init__ A.d_Meal___init__ P_Meal___init__ (spInit K A.a_Meal) := ok_init T
  have G_Book___init__ : FnOk P w K mg base CX0 5 A.a_Book___init__ A.d_Book___init__ P_Book___init__ (spBInit K A.a_Book) := ok_binit T
  have G_Evening___init__ : FnOk P w K mg base CX0 8 A.a_Evening___init__ A.d_Evening___init__ P_Evening___init__ (spEvInit K A.a_Meal A.a_Course A.a_Book A.a_Evening) := ok_evinit T
  have G_Evening_go : FnOk P w K mg base CX0 8 A.a_Evening_go A.d_Evening_go P_Evening_go (spGoE K A.a_Meal A.a_Course A.a_Book A.a_Evening) := ok_goE T
  have G_Evening_call : FnOk P w K mg base CX0 8 A.a_Evening_call A.d_Evening_call P_Evening_call (spCallE K A.a_Meal A.a_Course A.a_Book A.a_Evening) := ok_callE T
  have G_Evening_state : FnOk P w K mg base CX0 4 A.a_Evening_state A.d_Evening_state P_Evening_state (spStateE K A.a_Meal A.a_Course A.a_Evening) := ok_stateE T
  have G_Evening_minute : FnOk P w K mg base CX0 1 A.a_Evening_minute A.d_Evening_minute P_Evening_minute (spMinuteE A.a_Course A.a_Evening) := ok_minuteE T
  obtain ⟨dsM, vM1, bM1⟩ := T.bM1
  refine T.f_law.ok sc_law (fun vs H Q E h => ?_) (fun cdv A' outer s H vs Q E hr h => ?_)
  · obtain ⟨a, ns, rfl, _⟩ := h
    rfl
  · obtain ⟨a, ns, rfl, hS, hlen, k⟩ := h
    refine ⟨_, (pss_cons (ps_set (i := 1) sc_law.nd rfl (Or.inl rfl) (pe_call G__law_fresh (hr.mono (by omega)) (by rfl) T.g__law_fresh T.f__law_fresh.kp T.b__law_fresh .nil pass0 (pa_cons (pv 0) pa_nil)))
 (pss_cons (ps_for PassesOwn.never rfl (pi_range1 (by rfl) T.range (pa_cons pe_int pa_nil)) (pg_name (i := 2) sc_law.nd rfl (Or.inl rfl))
 (pss_cons (ps_asg (pe_call G__law_names (hr.mono (by omega)) (by rfl) T.g__law_names T.f__law_names.kp T.b__law_names .nil pass0 (pa_cons (pv 1) (pa_cons pe_int pa_nil))) (Own.pg_lt (by rfl) (pgs_cons (pg_name (i := 3) sc_law.nd rfl (Or.inl rfl)) (pgs_cons (pg_name (i := 4) sc_law.nd rfl (Or.inl rfl)) pgs_nil))))
 (pss_cons (ps_par (i := 5) (j := 6) (by rfl) sc_law.nd rfl rfl (by decide) rfl rfl (pa_cons (pe_call G__law_number (hr.mono (by omega)) (by rfl) T.g__law_number T.f__law_number.kp T.b__law_number .nil pass0 (pa_cons (pv 1) pa_nil)) (pa_cons (pe_call G__law_one (hr.mono (by omega)) (by rfl) T.g__law_one T.f__law_one.kp T.b__law_one .nil pass0 (pa_cons (pv 1) (pa_cons (pe_lst (pa_cons pe_int (pa_cons (pe_call G__law_number (hr.mono (by omega)) (by rfl) T.g__law_number T.f__law_number.kp T.b__law_number .nil pass0 (pa_cons (pv 1) pa_nil)) pa_nil))) pa_nil))) pa_nil)) (by rfl))
 (pss_cons (ps_par (i := 7) (j := 8) (by rfl) sc_law.nd rfl rfl (by decide) rfl rfl (pa_cons (pe_call G__law_number (hr.mono (by omega)) (by rfl) T.g__law_number T.f__law_number.kp T.b__law_number .nil pass0 (pa_cons (pv 1) pa_nil)) (pa_cons (pe_call G__law_number (hr.mono (by omega)) (by rfl) T.g__law_number T.f__law_number.kp T.b__law_number .nil pass0 (pa_cons (pv 1) pa_nil)) pa_nil)) (by rfl))
 (pss_cons (ps_set (i := 9) sc_law.nd rfl (Or.inl rfl) (pe_disp (pps_cons (pv 3) (pe_tup (pa_cons (pv 7) (pa_cons (pe_op op_add (pv 7) (pv 8)) pa_nil))) (pps_cons (pv 4) (pe_tup (pa_cons pe_int (pa_cons (pe_op op_add pe_int (pv 8)) pa_nil))) pps_nil)) (by rfl) (by rfl) (fun z => by cases z) (by decide)))
 (pss_cons (ps_set (i := 10) sc_law.nd rfl (Or.inl rfl) (pe_make T.mkEv G_Evening___init__ (hr.mono (by omega)) (by rfl) T.g_Evening T.b_Evening___init__ .nil pass0 (pa_cons (pe_make T.mkM G_Meal___init__ (hr.mono (by omega)) (by rfl) T.g_Meal bM1 vM1 pass0 (pa_cons (pv 9) pa_nil)) (pa_cons (pe_make T.mkB G_Book___init__ (hr.mono (by omega)) (by rfl) T.g_Book T.b_Book___init__ .nil pass0 (pa_cons (pe_disp (pps_cons (pv 3) (pe_tup (pa_cons pe_str (pa_cons (pv 5) pa_nil))) (pps_cons (pv 4) (pe_tup (pa_cons (pv 3) (pa_cons (pv 6) pa_nil))) pps_nil)) (by rfl) (by rfl) (fun z => by cases z) (by decide)) pa_nil)) pa_nil))))
 (pss_cons (ps_set (i := 11) sc_law.nd rfl (Or.inl rfl) (pe_lst (pa_cons (pe_meth (pv 10) T.cl_Ev T.m_goE G_Evening_go (hr.mono (by omega)) T.b_Evening_go .nil pass0 (pa_cons (pe_op op_sub (pv 5) pe_int) pa_nil)) (pa_cons (pe_meth (pv 10) T.cl_Ev T.m_stateE G_Evening_state (hr.mono (by omega)) T.b_Evening_state .nil pass0 (pa_cons (pv 3) pa_nil)) (pa_cons (pe_meth (pv 10) T.cl_Ev T.m_goE G_Evening_go (hr.mono (by omega)) T.b_Evening_go .nil pass0 (pa_cons pe_int pa_nil)) (pa_cons (pe_meth (pv 10) T.cl_Ev T.m_goE G_Evening_go (hr.mono (by omega)) T.b_Evening_go .nil pass0 (pa_cons (pe_op op_sub (pv 7) pe_int) pa_nil)) pa_nil))))))
 (pss_cons (ps_if (pt_not (pt_val (pe_call G__law_same (hr.mono (by omega)) (by rfl) T.g__law_same T.f__law_same.kp T.b__law_same .nil pass0 (pa_cons (pv 11) (pa_cons (pe_lst (pa_cons (pe_lst pa_nil) (pa_cons (pe_tup (pa_cons pe_str pa_nil)) (pa_cons (pe_lst (pa_cons (pe_tup (pa_cons (pv 5) (pa_cons (pv 3) pa_nil))) pa_nil)) (pa_cons (pe_lst pa_nil) pa_nil))))) pa_nil)))))
 (pss_one (ps_ret pe_bl))
 pss_nil)
 (pss_cons (ps_set (i := 11) sc_law.nd rfl (Or.inl rfl) (pe_lst (pa_cons (pe_call G__law_refused (hr.mono (by omega)) (by rfl) T.g__law_refused T.f__law_refused.kp T.b__law_refused .nil pass0 (pa_cons (pv 10) (pa_cons pe_str (pa_cons (pv 3) (pa_cons pe_int pa_nil))))) (pa_cons (pe_call G__law_refused (hr.mono (by omega)) (by rfl) T.g__law_refused T.f__law_refused.kp T.b__law_refused .nil pass0 (pa_cons (pv 10) (pa_cons pe_str (pa_cons (pv 3) (pa_cons (pe_op op_add (pv 8) pe_int) pa_nil))))) pa_nil))))
 (pss_cons (ps_expr (pe_bm PySem.F.plainAttrs_list PySem.F.slot_list_append PySem.F.type_list_append mt_append (pv 11) (pa_cons (pe_call G__law_refused (hr.mono (by omega)) (by rfl) T.g__law_refused T.f__law_refused.kp T.b__law_refused .nil pass0 (pa_cons (pv 10) (pa_cons pe_str (pa_cons (pv 3) (pa_cons (pe_op op_sub (pe_op op_add (pv 5) (pv 7)) pe_int) pa_nil))))) pa_nil)))
 (pss_cons (ps_if (pt_not (pt_val (pe_call G__law_same (hr.mono (by omega)) (by rfl) T.g__law_same T.f__law_same.kp T.b__law_same .nil pass0 (pa_cons (pv 11) (pa_cons (pe_lst (pa_cons (pe_tup (pa_cons pe_str (pa_cons (pv 3) pa_nil))) (pa_cons (pe_tup (pa_cons pe_str (pa_cons (pv 3) pa_nil))) (pa_cons (pe_tup (pa_cons pe_str (pa_cons pe_str pa_nil))) pa_nil)))) pa_nil)))))
 (pss_one (ps_ret pe_bl))
 pss_nil)
 (pss_cons (ps_set (i := 12) sc_law.nd rfl (Or.inl rfl) (pe_op op_add (pv 5) (pv 7)))
 (pss_cons (ps_set (i := 11) sc_law.nd rfl (Or.inl rfl) (pe_lst (pa_cons (pe_meth (pv 10) T.cl_Ev T.m_goE G_Evening_go (hr.mono (by omega)) T.b_Evening_go .nil pass0 (pa_cons pe_int pa_nil)) (pa_cons (pe_meth0 (pv 10) T.cl_Ev T.m_minuteE G_Evening_minute (hr.mono (by omega)) T.b_Evening_minute .nil pass0) (pa_cons (pe_meth (pv 10) T.cl_Ev T.m_stateE G_Evening_state (hr.mono (by omega)) T.b_Evening_state .nil pass0 (pa_cons (pv 3) pa_nil)) (pa_cons (pe_meth (pv 10) T.cl_Ev T.m_stateE G_Evening_state (hr.mono (by omega)) T.b_Evening_state .nil pass0 (pa_cons (pv 4) pa_nil)) pa_nil))))))
 (pss_cons (ps_if (pt_not (pt_val (pe_call G__law_same (hr.mono (by omega)) (by rfl) T.g__law_same T.f__law_same.kp T.b__law_same .nil pass0 (pa_cons (pv 11) (pa_cons (pe_lst (pa_cons (pe_lst pa_nil) (pa_cons (pv 12) (pa_cons (pe_tup (pa_cons pe_str (pa_cons (pv 5) pa_nil))) (pa_cons (pe_tup (pa_cons pe_str pa_nil)) pa_nil))))) pa_nil)))))
 (pss_one (ps_ret pe_bl))
 pss_nil)
 (pss_cons (ps_if (pt_not (pt_val (pe_call G__law_same (hr.mono (by omega)) (by rfl) T.g__law_same T.f__law_same.kp T.b__law_same .nil pass0 (pa_cons (pe_meth (pv 10) T.cl_Ev T.m_callE G_Evening_call (hr.mono (by omega)) T.b_Evening_call .nil pass0 (pa_cons (pv 3) pa_nil)) (pa_cons (pe_ifExp (pt_cmpR op_eq (pv 6) pe_int (nomark _)) (pe_lst (pa_cons (pv 4) pa_nil)) (pe_lst pa_nil)) pa_nil)))))
 (pss_one (ps_ret pe_bl))
 pss_nil)
 (pss_cons (ps_if (pt_cmpR op_gt (pv 6) pe_int (nomark _))
 (pss_one (ps_if (PW.pt (pw_or (pt_cmpR (op_neD hr.units) (pe_meth (pv 10) T.cl_Ev T.m_goE G_Evening_go (hr.mono (by omega)) T.b_Evening_go .nil pass0 (pa_cons (pe_op op_sub (pv 6) pe_int) pa_nil)) (pe_lst pa_nil) (nomark _)) (pw_or1 (pt_not (pt_val (pe_call G__law_same (hr.mono (by omega)) (by rfl) T.g__law_same T.f__law_same.kp T.b__law_same .nil pass0 (pa_cons (pe_meth (pv 10) T.cl_Ev T.m_goE G_Evening_go (hr.mono (by omega)) T.b_Evening_go .nil pass0 (pa_cons pe_int pa_nil)) (pa_cons (pe_lst (pa_cons (pe_tup (pa_cons (pe_op op_add (pv 12) (pv 6)) (pa_cons (pv 4) pa_nil))) pa_nil)) pa_nil))))))))
 (pss_one (ps_ret pe_bl))
 pss_nil))
 pss_nil)
 (pss_cons (ps_set (i := 11) sc_law.nd rfl (Or.inl rfl) (pe_lst (pa_cons (pe_meth (pv 10) T.cl_Ev T.m_goE G_Evening_go (hr.mono (by omega)) T.b_Evening_go .nil pass0 (pa_cons (pe_op op_add pe_int (pv 8)) pa_nil)) (pa_cons (pe_call G__law_refused (hr.mono (by omega)) (by rfl) T.g__law_refused T.f__law_refused.kp T.b__law_refused .nil pass0 (pa_cons (pv 10) (pa_cons pe_str (pa_cons (pv 4) (pa_cons pe_int pa_nil))))) (pa_cons (pe_meth (pv 10) T.cl_Ev T.m_callE G_Evening_call (hr.mono (by omega)) T.b_Evening_call .nil pass0 (pa_cons (pv 4) pa_nil)) pa_nil)))))
 (pss_cons (ps_if (pt_not (pt_val (pe_call G__law_same (hr.mono (by omega)) (by rfl) T.g__law_same T.f__law_same.kp T.b__law_same .nil pass0 (pa_cons (pv 11) (pa_cons (pe_lst (pa_cons (pe_lst pa_nil) (pa_cons (pe_tup (pa_cons pe_str (pa_cons (pv 4) pa_nil))) (pa_cons (pe_lst pa_nil) pa_nil)))) pa_nil)))))
 (pss_one (ps_ret pe_bl))
 pss_nil)
 (pss_cons (ps_set (i := 13) sc_law.nd rfl (Or.inl rfl) (pe_lst (pa_cons (pe_tup (pa_cons pe_str (pa_cons (pv 5) (pa_cons (pv 12) pa_nil)))) (pa_cons (pe_tup (pa_cons pe_str (pa_cons (pe_op op_add (pv 12) (pv 6)) (pa_cons (pe_op op_add (pe_op op_add (pe_op op_add (pv 12) (pv 6)) pe_int) (pv 8)) pa_nil)))) pa_nil))))
 (pss_one (ps_if (pt_not (pt_val (pe_call G__law_is_over (hr.mono (by omega)) (by rfl) T.g__law_is_over T.f__law_is_over.kp T.b__law_is_over .nil pass0 (pa_cons (pv 10) (pa_cons (pe_lst (pa_cons (pv 3) (pa_cons (pv 4) pa_nil))) (pa_cons (pv 13) pa_nil))))))
 (pss_one (ps_ret pe_bl))
 pss_nil)))))))))))))))))))))
 (pss_one (ps_ret pe_bl)))), ?_⟩
    refine ⟨_, rfl, a, ns, rfl, hS, fun st c H1 _ S1 => ?_⟩
    refine ⟨4, rfl, by decide, by decide, for_range (lo := 0) (n := (4 : Int).toNat) (fun i σ' H' => ∃ u2 u3 u4 u5 u6 u7 u8 u9 u10 u11 u12 u13, σ' = [some (.ref a), some (.ref st), u2, u3, u4, u5, u6, u7, u8, u9, u10, u11, u12, u13] ∧ Sta H' st c (100 * (i : Int)))
      ⟨_, _, _, _, _, _, _, _, _, _, _, _, rfl, by simpa using S1⟩ ?_ (fun σ' H' _ => k H')⟩
    clear hS S1
    rintro i σ' H0 hi ⟨u2, u3, u4, u5, u6, u7, u8, u9, u10, u11, u12, u13, rfl, B0⟩
    have hi4 : (i : Int) < 4 := by
      have : i < 4 := hi
      omega
    -- names
    refine ⟨_, rfl, st, c, _, 2, rfl, B0, by omega, by decide, fun pn ns H2 hnd hpool hnl g2 hn _ => ?_⟩
    obtain ⟨o, t, rfl⟩ : ∃ o t, ns = [o, t] := match ns, hnl with | [x, y], _ => ⟨x, y, rfl⟩
    refine un2 (.inl (SqL.of ((er_same _ _) _ _ hn))) ?_
    dsimp only [List.set]
    have nto : t ≠ o := fun z => by rw [z] at hnd; simp at hnd
    have ho : Nm o ∧ PyData.strOk o = true := ⟨pool_nm o (hpool o (by simp)), pool_ok o (hpool o (by simp))⟩
    have ht : Nm t ∧ PyData.strOk t = true := ⟨pool_nm t (hpool t (by simp)), pool_ok t (hpool t (by simp))⟩
    have nc : o ≠ "clock" := ho.1.noclock
    have hpan : ∀ x, x = o ∨ x = t → x ≠ "pan" := fun x m z => absurd (hpool x (by rcases m with rfl | rfl <;> simp)) (by rw [z]; decide +kernel)
    have B2 := g2.sta
    clear g2 hn B0 hnl hnd
    -- wait, gap
    refine ⟨_, rfl, st, c, _, rfl, B2, by omega, fun wa H3 g3 w1 w2 => ?_⟩
    have B3 := g3.sta
    refine ⟨_, rfl, _, rfl, st, c, _, rfl, B3, by omega, fun g0 H4 g4 q1 q2 => ⟨by show 2 ≤ sizeLine; decide, fun ll nll => ?_⟩⟩
    have B4 := g4.sta.same (Same.new nll (o := .lst [.int 0, .int g0]))
    refine ⟨st, c, ll, [.int 0, .int g0], _, rfl, B4, by omega, SqL.of (er_of (g4.sta.ne nll) upd_same), by show 0 < 2; decide, by show 2 < 1073741824; decide, fun j v H5 hv g5 => ?_⟩
    obtain ⟨ga, rfl, hga⟩ : ∃ ga : Int, v = .int ga ∧ (ga = 0 ∨ 2 ≤ ga) := by
      match j, hv with
      | 0, hv => cases hv; exact ⟨0, rfl, .inl rfl⟩
      | 1, hv => cases hv; exact ⟨g0, rfl, .inr q1⟩
      | j + 2, hv => simp at hv
    have B5 := g5.sta
    clear g3 g4 g5 B2 B3 B4 nll hv q1 q2
    refine ⟨_, _, rfl, ?_⟩
    dsimp only [List.set]
    refine ⟨_, rfl, st, c, _, rfl, B5, by omega, fun le H6 g6 l1 l2 => ?_⟩
    have B6 := g6.sta
    refine ⟨_, rfl, st, c, _, rfl, B6, by omega, fun mo H7 g7 m1 m2 => ⟨_, _, rfl, ?_⟩⟩
    have B7 := g7.sta.le (show _ ≤ 100 * (i : Int) + 100 by omega) (by omega)
    clear g6 g7 B5 B6
    dsimp only [List.set]
    -- the dishes
    intro D nD
    refine ⟨_, rfl, _, rfl, _, rfl, _, rfl, _, _, rfl, rfl, by show 2 ≤ sizeLine; decide, fun t1 n1 => ?_⟩
    refine ⟨_, rfl, _, rfl, _, _, rfl, rfl, by show 2 ≤ sizeLine; decide, fun t2 n2 => ?_⟩
    obtain ⟨z1, s8, hD, hq1, hq2⟩ := disp2 (x1 := [.int le, .int (le + mo)]) (x2 := [.int 3, .int (3 + mo)]) (kv := [(.inr o, .ref t1), (.inr t, .ref t2)]) nD n1 n2
    refine ⟨z1, [(.inr o, .ref t1), (.inr t, .ref t2)], rfl, by show 2 ≤ 15; decide, ?_⟩
    rw [merge_two nto]
    have B8 := B7.same s8
    generalize upd (upd (upd (upd H7 D (.dK [])) t1 (.tup [.int le, .int (le + mo)])) t2 (.tup [.int 3, .int (3 + mo)])) D (.dK [(.inr o, .ref t1), (.inr t, .ref t2)]) = H8 at s8 hD hq1 hq2 B8 ⊢
    clear z1 n1 n2 nD s8 B7
    dsimp only [List.set]
    have P8 : Pr2 K H8 [o, t] (fun x => .int (v2 o le 3 x)) (fun x => .int (v2 o (le + mo) (3 + mo) x)) [(.inr o, .ref t1), (.inr t, .ref t2)] := two_pr nto (by rw [v2_o, v2_o]; exact SqT.of hq1) (by rw [v2_t nto, v2_t nto]; exact SqT.of hq2)
    have hB : ∀ x ∈ [o, t], (Nm x ∧ PyData.strOk x = true) ∧ 1 ≤ v2 o le 3 x ∧ v2 o le 3 x ≤ v2 o (le + mo) (3 + mo) x := fun x m => by
      rcases List.mem_cons.mp m with rfl | m
      · rw [v2_o, v2_o]; exact ⟨ho, by omega, by omega⟩
      · rw [List.mem_singleton.mp m, v2_t nto, v2_t nto]; exact ⟨ht, by omega, by omega⟩
    refine ⟨_, rfl, mk_meal hD P8.x (by simp; exact fun z => nto z.symm) hB (by show 2 < 64; decide) (.inr (stUp T.e0W (fun _ _ z => nomatch z))) .nil rfl (Nat.zero_le _) (fun _ m => nomatch m) (.inr (stUp T.e0 (fun _ _ z => nomatch z))) .nil rfl (Nat.zero_le _) (fun _ m => nomatch m) (fun p H9 ys np s9 MN yp ysr => ?_)⟩
    have M9 : MlAt K A.a_Meal H9 p ys (v2 o le 3) (v2 o (le + mo) (3 + mo)) [] [] := MN _ KeepM.refl
    have B9 := B8.same s9
    clear MN np hD hq1 hq2 P8 B8 s9
    -- the book
    intro D2 nD
    refine ⟨_, rfl, _, rfl, by show 2 ≤ sizeLine; decide, fun t1 n1 => ?_⟩
    refine ⟨_, rfl, _, rfl, _, rfl, by show 2 ≤ sizeLine; decide, fun t2 n2 => ?_⟩
    obtain ⟨z1, s10, hD, hq1, hq2⟩ := disp2 (x1 := [.str "clock", .int wa]) (x2 := [.str o, .int ga]) (kv := [(.inr o, .ref t1), (.inr t, .ref t2)]) nD n1 n2
    refine ⟨z1, [(.inr o, .ref t1), (.inr t, .ref t2)], rfl, by show 2 ≤ 15; decide, ?_⟩
    rw [merge_two nto]
    have B10 := B9.same s10
    have M10 := M9.up s10
    generalize upd (upd (upd (upd H9 D2 (.dK [])) t1 (.tup [.str "clock", .int wa])) t2 (.tup [.str o, .int ga])) D2 (.dK [(.inr o, .ref t1), (.inr t, .ref t2)]) = H10 at s10 hD hq1 hq2 B10 M10 ⊢
    clear z1 n1 n2 nD s10 B9 M9
    have P10 : Pr2 K H10 [o, t] (fun x => .str (hk2 o x)) (fun x => .int (v2 o wa ga x)) [(.inr o, .ref t1), (.inr t, .ref t2)] := two_pr nto (by rw [hk2_o, v2_o]; exact SqT.of hq1) (by rw [hk2_t nto, v2_t nto]; exact SqT.of hq2)
    refine mk_book hD P10 (rok_two nto ho ht) (fun x m => ?_) (fun b H11 zs nb s11 BK zp zsrt => ?_)
    · rcases List.mem_cons.mp m with rfl | m
      · rw [v2_o]; omega
      · rw [List.mem_singleton.mp m, v2_t nto]; omega
    obtain rfl : zs = ys := asc_eq (zp.trans yp.symm) zsrt (sle_sorted ysr)
    have M11 := M10.up s11
    have B11 := B10.same s11
    clear M10 B10 s11 hD hq1 hq2 P10 zp zsrt nb
    have W : Two zs o t := ⟨yp, nto, nc, ho, ht⟩
    have f0 : freshL (hk2 o) (v2 o wa ga) [] [] 0 zs = [] := fresh_o yp (con_late due_o (by omega)) (con_none (by rw [due_t nto nc]; rfl))
    refine mk_evening M11 BK W.nd (by rw [W.len]; decide) (fun x m => by rcases W.of m with rfl | rfl; exact ho.2; exact ht.2) f0 (fun e l c0 H12 ne nl E12 s12 C12 => ?_)
    have S12 : Stg K A.a_Meal A.a_Course A.a_Book A.a_Evening H11 H12 e l p b [] zs o t wa ga le mo 0 [] [] := ⟨⟨c0, E12, C12⟩, M11.up s12, BK.up s12, s12⟩
    have hend : ∀ H', Same H11 H' → Sta H' st c (100 * ((i + 1 : Nat) : Int)) := fun H' s => (B11.same s).le (by omega) (by omega)
    clear B11 M11 BK E12 C12 s12 ne nl f0 yp ysr
    dsimp only [List.set]
    -- up to the start of the first, and on to a minute ahead of its least
    have tin : ∀ {ds : List (Str × Int)}, look ds o = none → dueF (hk2 o) (v2 o wa ga) ds t = none := fun h => by rw [due_t nto nc, h]; rfl
    have lo1 : ∀ {x : Int} {r : List (Str × Int)}, look ((o, x) :: r) o = some x := if_pos rfl
    have lt1 : ∀ {x : Int} {r : List (Str × Int)}, look ((o, x) :: r) t = look r t := if_neg fun z => nto z.symm
    have ltt : ∀ {x : Int} {r : List (Str × Int)}, look ((t, x) :: r) t = some x := if_pos rfl
    obtain ⟨dx, c1, he⟩ := S12.at_
    refine ⟨_, rfl, e, dx, _, rfl, he, rfl, _, rfl, _, _, rfl, rfl, ?_⟩
    refine tn_nil ?_
    dsimp only
    refine S12.go W (by decide) (wa - 1) [] [] (by omega) (by omega) (by decide) (by decide) (by decide) (fresh_o W.p (con_late due_o (by omega)) (con_none (tin rfl))) (by decide) rfl (fun _ h => nomatch h) (fun _ h => nomatch h) fun l1' k1 H13 _ S13 f13 d1 => ?_
    obtain ⟨dx, c1, he⟩ := S13.at_
    refine ⟨_, rfl, e, dx, _, rfl, he, rfl, _, rfl, ?_⟩
    refine tn_nil ?_
    dsimp only
    refine S13.state W W.mo (d := .tuple [.str "waits"]) rfl fun l2' H14 S14 f14 d2 => ?_
    have d1 := dpSame f14 d1
    obtain ⟨dx, c1, he⟩ := S14.at_
    refine ⟨_, rfl, e, dx, _, rfl, he, rfl, ?_⟩
    refine tc_one ?_
    dsimp only
    refine S14.go W (by show 1 ≤ 900; decide) wa [(o, wa)] [(o, wa)] (by decide) (by omega) (by decide) (by decide) (by decide) (fresh_o W.p (con_now rfl due_o (by omega)) (con_none (tin rfl))) (by show 1 ≤ 1; decide) rfl (fun x h _ => by rw [lo1] at h; cases h; omega) (fun x h _ => by rw [lt1] at h; cases h) fun l3' k3 H15 _ S15 f15 d3 => ?_
    have d1 := dpSame f15 d1
    have d2 := dpSame f15 d2
    obtain ⟨dx, c1, he⟩ := S15.at_
    refine ⟨_, rfl, e, dx, _, rfl, he, rfl, _, rfl, _, _, rfl, rfl, ?_⟩
    refine tn_nil ?_
    dsimp only
    refine S15.go W (by show 2 ≤ 900; decide) (wa + le - 1) [] [(o, wa)] (by omega) (by omega) (by simp) (by show 1 ≤ 900; decide) (by decide) (fresh_o W.p (con_in lo1) (con_none (tin rfl))) (by decide) rfl (fun x h _ => by rw [lo1] at h; cases h; omega) (fun x h _ => by rw [lt1] at h; cases h) fun l4' k4 H16 _ S16 f16 d4 => ?_
    have d1 := dpSame f16 d1
    have d2 := dpSame f16 d2
    have d3 := dpSame f16 d3
    clear S12 S13 S14 S15 f13 f14 f15 f16 he
    refine tn_nil ?_
    dsimp only [List.set]
    refine ⟨by show 4 ≤ sizeLine; decide, fun lf nlf => ?_⟩
    have s17 := Same.new nlf (o := .lst [.ref l1', .ref l2', .ref l3', .ref l4'])
    have g17 := f2_mono (e := e) (l := l) s17
    have S17 := S16.up s17
    have dF : Dp K (f2 (upd H16 lf (.lst [.ref l1', .ref l2', .ref l3', .ref l4'])) e l) (.ref lf) (.list [prsD [], .tuple [.str "waits"], prsD [(o, wa)], prsD []]) := .lst (SqL.of (S16.put nlf)) (.cons (dpSame g17 d1) (.cons (dpSame g17 d2) (.cons (dpSame g17 d3) (.cons (dpSame g17 d4) .nil))))
    generalize upd H16 lf (.lst [.ref l1', .ref l2', .ref l3', .ref l4']) = H17 at S17 dF ⊢
    clear s17 g17 nlf d1 d2 d3 d4 S16
    refine ⟨_, rfl, Nat.zero_le _, fun q1 n1 => ⟨by show 1 ≤ sizeLine; decide, fun q2 n2 => ⟨_, rfl, _, rfl, by show 2 ≤ sizeLine; decide, fun q3 n3 => ⟨by show 1 ≤ sizeLine; decide, fun q4 n4 => ⟨Nat.zero_le _, fun q5 n5 => ⟨by show 4 ≤ sizeLine; decide, fun q6 n6 => ?_⟩⟩⟩⟩⟩⟩
    have sD := (((((Same.new n1 (o := .lst [])).trans (Same.new n2 (o := .tup [.str "waits"]))).trans (Same.new n3 (o := .tup [.int wa, .str o]))).trans (Same.new n4 (o := .lst [.ref q3]))).trans (Same.new n5 (o := .lst []))).trans (Same.new n6 (o := .lst [.ref q1, .ref q2, .ref q4, .ref q5]))
    have dD : Dp K (upd (upd (upd (upd (upd (upd H17 q1 (.lst [])) q2 (.tup [.str "waits"])) q3 (.tup [.int wa, .str o])) q4 (.lst [.ref q3])) q5 (.lst [])) q6 (.lst [.ref q1, .ref q2, .ref q4, .ref q5])) (.ref q6) (.list [prsD [], .tuple [.str "waits"], prsD [(o, wa)], prsD []]) :=
      .lst (SqL.of upd_same) (.cons (.lst (SqL.of (Same.new n6 _ _ (Same.new n5 _ _ (Same.new n4 _ _ (Same.new n3 _ _ (Same.new n2 _ _ upd_same)))))) .nil)
        (.cons (.tup (SqT.of (Same.new n6 _ _ (Same.new n5 _ _ (Same.new n4 _ _ (Same.new n3 _ _ upd_same))))) (.cons (.str _) .nil))
        (.cons (.lst (SqL.of (Same.new n6 _ _ (Same.new n5 _ _ upd_same))) (.cons (.tup (SqT.of (Same.new n6 _ _ (Same.new n5 _ _ (Same.new n4 _ _ upd_same)))) (.cons (.int _) (.cons (.str _) .nil))) .nil))
        (.cons (.lst (SqL.of (Same.new n6 _ _ upd_same)) .nil) .nil))))
    refine ⟨_, _, _, rfl, dpSame (f2_same.trans sD) dF, dD, by simp [PyData.depth, PyData.depthAll, prsD], by simp [wid, widAll, prsD], fun H18 s18 => ⟨true, rfl, iteF ?_⟩⟩
    have S18 := S17.up (sD.trans s18)
    clear sD dD dF S17 s18 n1 n2 n3 n4 n5 n6
    -- what is refused there
    have hO := (⟨_, rok_perm (rok_two nto ho ht) W.p⟩ : ∃ rk, ROk rk (rowsF zs (hk2 o)))
    have npan : ("pan" : Str) ∉ zs := fun m => by
      rcases W.of m with z | z
      · exact absurd (hpan o (.inl rfl)) (by rw [← z]; simp)
      · exact absurd (hpan t (.inr rfl)) (by rw [← z]; simp)
    refine ⟨_, rfl, _, rfl, ?_⟩
    refine tc_one ?_
    refine ⟨e, "call", o, "soon", o, 0, rfl, .inr (.inl ⟨rfl, rfl, fun Q' E ra => S18.soon W W.mo lo1 rfl (by rw [v2_o]; omega) ra⟩), fun r1 H19 s19 hr1 => ?_⟩
    refine ⟨_, rfl, _, rfl, _, rfl, _, _, rfl, rfl, ?_⟩
    refine tn_nil ?_
    have S19 := S18.up s19
    refine ⟨e, "go", o, "overdue", o, mo + 2, rfl, .inl ⟨rfl, rfl, fun Q' E ra => S19.late W (by omega) (by simp) (by show 1 ≤ 900; decide) (by decide) (fresh_o W.p (con_in lo1) (con_none (tin rfl))) W.mo lo1 rfl (by rw [v2_o]; omega) (fun x mx ne => .inl (by rcases W.of mx with z | z; exact absurd z ne; rw [z, lt1]; rfl)) ra⟩, fun r2 H20 s20 hr2 => ?_⟩
    refine tn_nil ?_
    dsimp only
    refine ⟨by show 2 ≤ sizeLine; decide, fun lf2 nlf => ?_⟩
    have S20 := S19.up s20
    have hr1 := s20 _ _ hr1
    have hl2 : upd H20 lf2 (.lst [.ref r1, .ref r2]) lf2 = some (.lst [.ref r1, .ref r2]) := upd_same
    have s21 := Same.new nlf (o := .lst [.ref r1, .ref r2])
    generalize upd H20 lf2 (.lst [.ref r1, .ref r2]) = H21 at hl2 s21 ⊢
    clear S18 S19 s19 s20
    dsimp only [List.set]
    refine ⟨_, rfl, .inl ⟨rfl, _, SqL.of hl2⟩, _, rfl, _, rfl, _, rfl, _, rfl, _, _, rfl, rfl, _, _, rfl, rfl, ?_⟩
    refine tn_nil ?_
    have S21 := S20.up s21
    refine ⟨e, "put", o, "early", "pan", wa + le - 2, rfl, .inr (.inr ⟨rfl, rfl, fun Q' E ra => S21.early W (by omega) (by omega) (by omega) (by omega) (by omega) (by omega) hO npan ra⟩), fun r3 H22 s22 hr3 => ?_⟩
    refine tn_nil ?_
    dsimp only
    have hl3 := s22 _ _ hl2
    refine ⟨lf2, _, _, rfl, rfl, hl3, by show 2 < sizeLine; decide, ?_⟩
    have s23 : Same H20 (upd H22 lf2 (.lst ([V.ref r1, V.ref r2] ++ [.ref r3]))) := fun x u q => by rw [upd_ne (ne_of_none q nlf)]; exact s22 _ _ (s21 _ _ q)
    have n3 : r3 ≠ lf2 := fun z => by rw [z, hl3] at hr3; cases hr3
    have dF : Dp K (upd H22 lf2 (.lst ([V.ref r1, V.ref r2] ++ [.ref r3]))) (.ref lf2) (.list [.tuple [.str "soon", .str o], .tuple [.str "overdue", .str o], .tuple [.str "early", .str "pan"]]) :=
      .lst (SqL.of upd_same) (.cons (.tup (SqT.of (s23 _ _ hr1)) (.cons (.str _) (.cons (.str _) .nil))) (.cons (.tup (SqT.of (s23 _ _ hr2)) (.cons (.str _) (.cons (.str _) .nil))) (.cons (.tup (SqT.of (by rw [upd_ne n3]; exact hr3)) (.cons (.str _) (.cons (.str _) .nil))) .nil)))
    have S23 := S20.up s23
    refine cast_heap (b := upd H22 lf2 (.lst ([V.ref r1, V.ref r2] ++ [.ref r3]))) rfl ?_
    generalize upd H22 lf2 (.lst ([V.ref r1, V.ref r2] ++ [.ref r3])) = H23 at S23 dF ⊢
    clear s23 s22 s21 hl3 hl2 hr1 hr2 hr3 n3 nlf S20 S21
    refine ⟨_, rfl, _, rfl, by show 2 ≤ sizeLine; decide, fun q1 n1 => ⟨_, rfl, by show 2 ≤ sizeLine; decide, fun q2 n2 => ⟨by show 2 ≤ sizeLine; decide, fun q3 n3 => ⟨by show 3 ≤ sizeLine; decide, fun q4 n4 => ?_⟩⟩⟩⟩
    refine tn_nil ?_
    have sD := (((Same.new n1 (o := .tup [.str "soon", .str o])).trans (Same.new n2 (o := .tup [.str "overdue", .str o]))).trans (Same.new n3 (o := .tup [.str "early", .str "pan"]))).trans (Same.new n4 (o := .lst [.ref q1, .ref q2, .ref q3]))
    have dD : Dp K (upd (upd (upd (upd H23 q1 (.tup [.str "soon", .str o])) q2 (.tup [.str "overdue", .str o])) q3 (.tup [.str "early", .str "pan"])) q4 (.lst [.ref q1, .ref q2, .ref q3])) (.ref q4) (.list [.tuple [.str "soon", .str o], .tuple [.str "overdue", .str o], .tuple [.str "early", .str "pan"]]) :=
      .lst (SqL.of upd_same) (.cons (.tup (SqT.of (Same.new n4 _ _ (Same.new n3 _ _ (Same.new n2 _ _ upd_same)))) (.cons (.str _) (.cons (.str _) .nil)))
        (.cons (.tup (SqT.of (Same.new n4 _ _ (Same.new n3 _ _ upd_same))) (.cons (.str _) (.cons (.str _) .nil)))
        (.cons (.tup (SqT.of (Same.new n4 _ _ upd_same)) (.cons (.str _) (.cons (.str _) .nil))) .nil)))
    refine ⟨_, _, _, rfl, dpSame sD dF, dD, by simp [PyData.depth, PyData.depthAll], by simp [wid, widAll], fun H24 s24 => ⟨true, rfl, iteF ?_⟩⟩
    have S24 := S23.up (sD.trans s24)
    clear sD dD dF S23 s24 n1 n2 n3 n4
    -- its least is there
    refine ⟨_, rfl, _, rfl, _, _, rfl, rfl, ?_⟩
    dsimp only [List.set]
    obtain ⟨dx, c1, he⟩ := S24.at_
    refine ⟨_, rfl, e, dx, _, rfl, he, rfl, ?_⟩
    refine tc_one ?_
    refine S24.go W (by show 3 ≤ 900; decide) (wa + le) [] [(o, wa)] (by decide) (by omega) (by simp) (by show 1 ≤ 900; decide) (by decide) (fresh_o W.p (con_in lo1) (con_none (tin rfl))) (by decide) rfl (fun x h _ => by rw [lo1] at h; cases h; omega) (fun x h _ => by rw [lt1] at h; cases h) fun l1' k1 H25 _ S25 f25 d1 => ?_
    obtain ⟨dx, c1, he⟩ := S25.at_
    refine ⟨_, rfl, e, dx, _, rfl, he, rfl, ?_⟩
    refine tn_nil ?_
    refine S25.minute ?_
    refine ⟨_, rfl, e, dx, _, rfl, he, rfl, _, rfl, ?_⟩
    refine tn_nil ?_
    refine S25.state W W.mo (d := .tuple [.str "runs", .int wa]) (by unfold stD; rw [lo1]; rfl) fun l2' H26 S26 f26 d2 => ?_
    have d1 := dpSame f26 d1
    obtain ⟨dx, c1, he⟩ := S26.at_
    refine ⟨_, rfl, e, dx, _, rfl, he, rfl, _, rfl, ?_⟩
    refine tn_nil ?_
    refine S26.state W W.mt (d := .tuple [.str "waits"]) (by unfold stD; rw [lt1]; rfl) fun l3' H27 S27 f27 d3 => ?_
    have d1 := dpSame f27 d1
    have d2 := dpSame f27 d2
    refine tn_nil ?_
    dsimp only
    refine ⟨by show 4 ≤ sizeLine; decide, fun lf nlf => ?_⟩
    have s28 := Same.new nlf (o := .lst [.ref l1', .int (wa + le), .ref l2', .ref l3'])
    have g28 := f2_mono (e := e) (l := l) s28
    have S28 := S27.up s28
    have dF : Dp K (f2 (upd H27 lf (.lst [.ref l1', .int (wa + le), .ref l2', .ref l3'])) e l) (.ref lf) (.list [prsD [], .int (wa + le), .tuple [.str "runs", .int wa], .tuple [.str "waits"]]) := .lst (SqL.of (S27.put nlf)) (.cons (dpSame g28 d1) (.cons (.int _) (.cons (dpSame g28 d2) (.cons (dpSame g28 d3) .nil))))
    generalize upd H27 lf (.lst [.ref l1', .int (wa + le), .ref l2', .ref l3']) = H28 at S28 dF ⊢
    clear s28 g28 nlf d1 d2 d3 S24 S25 S26 S27 f25 f26 f27 he
    dsimp only [List.set]
    refine ⟨_, rfl, Nat.zero_le _, fun q1 n1 => ⟨_, rfl, _, rfl, by show 2 ≤ sizeLine; decide, fun q2 n2 => ⟨by show 1 ≤ sizeLine; decide, fun q3 n3 => ⟨by show 4 ≤ sizeLine; decide, fun q4 n4 => ?_⟩⟩⟩⟩
    refine tn_nil ?_
    have sD := (((Same.new n1 (o := .lst [])).trans (Same.new n2 (o := .tup [.str "runs", .int wa]))).trans (Same.new n3 (o := .tup [.str "waits"]))).trans (Same.new n4 (o := .lst [.ref q1, .int (wa + le), .ref q2, .ref q3]))
    have dD : Dp K (upd (upd (upd (upd H28 q1 (.lst [])) q2 (.tup [.str "runs", .int wa])) q3 (.tup [.str "waits"])) q4 (.lst [.ref q1, .int (wa + le), .ref q2, .ref q3])) (.ref q4) (.list [prsD [], .int (wa + le), .tuple [.str "runs", .int wa], .tuple [.str "waits"]]) :=
      .lst (SqL.of upd_same) (.cons (.lst (SqL.of (Same.new n4 _ _ (Same.new n3 _ _ (Same.new n2 _ _ upd_same)))) .nil) (.cons (.int _)
        (.cons (.tup (SqT.of (Same.new n4 _ _ (Same.new n3 _ _ upd_same))) (.cons (.str _) (.cons (.int _) .nil)))
        (.cons (.tup (SqT.of (Same.new n4 _ _ upd_same)) (.cons (.str _) .nil)) .nil))))
    refine ⟨_, _, _, rfl, dpSame (f2_same.trans sD) dF, dD, by simp [PyData.depth, PyData.depthAll, prsD], by simp [wid, widAll, prsD], fun H29 s29 => ⟨true, rfl, iteF ?_⟩⟩
    have S29 := S28.up (sD.trans s29)
    clear sD dD dF S28 s29 n1 n2 n3 n4
    -- the call
    with_reducible refine joinAB (fun σ H => ∃ (y11 : Option V) (past : List V), σ = [some (.ref a), some (.ref st), some (.int (0 + (i : Int))), some (.str o), some (.str t), some (.int wa), some (.int ga), some (.int le), some (.int mo), some (.ref D), some (.ref e), y11, some (.int (wa + le)), u13] ∧
      past.length ≤ 20 ∧ Stg K A.a_Meal A.a_Course A.a_Book A.a_Evening H11 H e l p b past zs o t wa ga le mo (wa + le + ga) [(o, wa), (t, wa + le + ga)] [(o, wa + le)]) (fun nx hnx => ?_) ?_
    · obtain ⟨dx, c1, he⟩ := S29.at_
      refine ⟨_, rfl, e, dx, _, rfl, he, rfl, _, rfl, ?_⟩
      refine tn_nil ?_
      have dt : dueF (hk2 o) (v2 o wa ga) [(o, wa + le)] t = some (wa + le + ga) := by rw [due_t nto nc, lo1]; rfl
      rcases hga with rfl | ga2
      · refine S29.call W (by show 4 ≤ 900; decide) wa [(t, wa + le + 0)] [(o, wa), (t, wa + le + 0)] [(o, wa + le)] (by simp) (by show 1 ≤ 900; decide) (by decide) (by decide) W.mo lo1 rfl (by rw [v2_o]; omega) rfl (fresh_t W.p (con_in lo1) (con_now (by rw [lt1]; rfl) dt (by omega))) (by show 1 ≤ 1; decide) rfl fun l1' k1 H30 S30 f30 d1 => ?_
        refine ⟨_, rfl, rfl, _, rfl, ite2 (fun _ => ?_) (fun c1 => absurd rfl c1)⟩
        refine ⟨_, rfl, by show 1 ≤ sizeLine; decide, fun q1 n1 => ?_⟩
        refine tn_nil ?_
        have sD := Same.new n1 (o := .lst [.str t])
        refine ⟨_, _, _, rfl, dpSame (f2_same.trans sD) d1, .lst (SqL.of upd_same) (.cons (.str _) .nil), by simp [PyData.depth, PyData.depthAll], by simp [wid, widAll], fun H31 s31 => ⟨true, rfl, iteF ?_⟩⟩
        refine ⟨_, rfl, _, _, rfl, rfl, _, rfl, ite2 (fun c1 => absurd (of_decide_eq_true c1) (by decide)) (fun _ => ?_)⟩
        have S31 := S30.up (sD.trans s31)
        refine hnx _ _ ⟨_, _, rfl, ?len, S31.to (by omega)⟩
        case len => show 5 ≤ 20; decide
      · refine S29.call W (by show 4 ≤ 900; decide) wa [] [(o, wa)] [(o, wa + le)] (by simp) (by show 1 ≤ 900; decide) (by decide) (by decide) W.mo lo1 rfl (by rw [v2_o]; omega) rfl (fresh_t W.p (con_in lo1) (con_late dt (by omega))) (by decide) rfl fun l1' k1 H30 S30 f30 d1 => ?_
        refine ⟨_, rfl, rfl, _, rfl, ite2 (fun c1 => absurd (V.int.inj (of_decide_eq_true c1)) (by omega)) (fun _ => ?_)⟩
        refine ⟨Nat.zero_le _, fun q1 n1 => ?_⟩
        refine tn_nil ?_
        have sD := Same.new n1 (o := .lst [])
        refine ⟨_, _, _, rfl, dpSame (f2_same.trans sD) d1, .lst (SqL.of upd_same) .nil, by simp [PyData.depth, PyData.depthAll], by simp [wid, widAll], fun H31 s31 => ⟨true, rfl, iteF ?_⟩⟩
        refine ⟨_, rfl, _, _, rfl, rfl, _, rfl, ite2 (fun _ => ?_) (fun c1 => absurd (decide_eq_true (show (0:Int) < ga by omega)) c1)⟩
        have S31 := S30.up (sD.trans s31)
        obtain ⟨dx, c1, he⟩ := S31.at_
        refine ⟨_, rfl, e, dx, _, rfl, he, rfl, _, rfl, _, _, rfl, rfl, ?_⟩
        refine tn_nil ?_
        refine S31.go W (by show 5 ≤ 900; decide) (wa + le + ga - 1) [] [(o, wa)] (by omega) (by omega) (by simp) (by show 1 ≤ 900; decide) (by show 1 ≤ 900; decide) (fresh_o W.p (con_in lo1) (con_late dt (by omega))) (by decide) rfl (fun x _ h => by rw [lo1] at h; cases h) (fun x h _ => by rw [lt1] at h; cases h) fun l2' k2 H32 _ S32 f32 d2 => ?_
        refine ⟨Nat.zero_le _, fun q2 n2 => ?_⟩
        refine ⟨.list [], .list [], dpSame (f2_same.trans (Same.new n2)) d2, .lst (SqL.of upd_same) .nil, rfl, rfl, false, rfl, iteF ?_⟩
        have S33 := S32.up (Same.new n2 (o := .lst []))
        obtain ⟨dx, c1, he⟩ := S33.at_
        refine ⟨_, rfl, e, dx, _, rfl, he, rfl, ?_⟩
        refine tc_one ?_
        refine S33.go W (by show 6 ≤ 900; decide) (wa + le + ga) [(t, wa + le + ga)] [(o, wa), (t, wa + le + ga)] (by decide) (by omega) (by simp) (by show 1 ≤ 900; decide) (by show 1 ≤ 900; decide) (fresh_t W.p (con_in lo1) (con_now (by rw [lt1]; rfl) dt (by omega))) (by show 1 ≤ 1; decide) rfl (fun x _ h => by rw [lo1] at h; cases h) (fun x h _ => by rw [lt1, ltt] at h; cases h; omega) fun l3' k3 H34 _ S34 f34 d3 => ?_
        refine ⟨_, rfl, _, rfl, _, _, rfl, rfl, _, rfl, by show 2 ≤ sizeLine; decide, fun q3 n3 => ⟨by show 1 ≤ sizeLine; decide, fun q4 n4 => ?_⟩⟩
        refine tn_nil ?_
        have sD := (Same.new n3 (o := .tup [.int (wa + le + ga), .str t])).trans (Same.new n4 (o := .lst [.ref q3]))
        refine ⟨_, _, _, rfl, dpSame (f2_same.trans sD) d3, .lst (SqL.of upd_same) (.cons (.tup (SqT.of (Same.new n4 _ _ upd_same)) (.cons (.int _) (.cons (.str _) .nil))) .nil), by simp [PyData.depth, PyData.depthAll, prsD], by simp [wid, widAll, prsD], fun H35 s35 => ⟨true, rfl, iteF ?_⟩⟩
        have S35 := S34.up (sD.trans s35)
        refine hnx _ _ ⟨_, _, rfl, ?len, S35⟩
        case len => show 7 ≤ 20; decide
    clear S29
    rintro σ' H36 ⟨y11, past, rfl, pl, S36⟩
    have sN : (([(o, wa), (t, wa + le + ga)] : List (Str × Int)).map (·.1)).Nodup := by simp; exact fun z => nto z.symm
    have l2t : ∀ {x y : Int}, look [(o, x), (t, y)] t = some y := lt1.trans ltt
    obtain ⟨dx, c1, he⟩ := S36.at_
    refine ⟨_, rfl, e, dx, _, rfl, he, rfl, _, rfl, _, _, rfl, rfl, ?_⟩
    refine tn_nil ?_
    refine S36.go W (by omega) (wa + le + ga + 3 + mo) [] [(o, wa), (t, wa + le + ga)] (by omega) (by omega) sN (by show 2 ≤ 900; decide) (by show 1 ≤ 900; decide) (fresh_o W.p (con_in lo1) (con_in l2t)) (by decide) rfl (fun x _ h => by rw [lo1] at h; cases h) (fun x h _ => by rw [l2t] at h; cases h; omega) fun l1' k1 H37 _ S37 f37 d1 => ?_
    refine ⟨_, rfl, _, rfl, ?_⟩
    refine tc_one ?_
    refine ⟨e, "go", t, "overdue", t, 1, rfl, .inl ⟨rfl, rfl, fun Q' E ra => S37.late W (by decide) sN (by show 2 ≤ 900; decide) (by show 1 ≤ 900; decide) (fresh_o W.p (con_in lo1) (con_in l2t)) W.mt l2t (by rw [lt1]; rfl) (by rw [v2_t nto]; omega) (fun x mx ne => .inr (by rcases W.of mx with z | z; exact ⟨_, by rw [z]; exact lo1⟩; exact absurd z ne)) ra⟩, fun r1 H38 s38 hr1 => ?_⟩
    have S38 := S37.up s38
    have d1 := dpSame (f2_mono (e := e) (l := l) s38) d1
    obtain ⟨cc, EE, _⟩ := S38.ex
    have d2 : Dp K (f2 H38 e l) (.ref r1) (.tuple [.str "overdue", .str t]) := EE.dp (.tup (SqT.of hr1) (.cons (.str _) (.cons (.str _) .nil))) rfl
    obtain ⟨dx, c1, he⟩ := S38.at_
    refine ⟨_, rfl, e, dx, _, rfl, he, rfl, _, rfl, ?_⟩
    refine tn_nil ?_
    refine S38.call W (by rw [List.length_append]; show past.length + 1 ≤ 900; omega) (wa + le + ga) [] [(o, wa), (t, wa + le + ga)] [(o, wa + le), (t, wa + le + ga + 3 + mo)] sN (by show 2 ≤ 900; decide) (by show 1 ≤ 800; decide) (by simp) W.mt l2t (by rw [lt1]; rfl) (by rw [v2_t nto]; omega) rfl (fresh_o W.p (con_in lo1) (con_in l2t)) (by decide) rfl fun l3' k3 H39 S39 f39 d3 => ?_
    have d1 := dpSame f39 d1
    have d2 := dpSame f39 d2
    refine tn_nil ?_
    try dsimp only
    refine ⟨by show 3 ≤ sizeLine; decide, fun lf nlf => ?_⟩
    have s40 := Same.new nlf (o := .lst [.ref l1', .ref r1, .ref l3'])
    have g40 := f2_mono (e := e) (l := l) s40
    have S40 := S39.up s40
    have dF : Dp K (f2 (upd H39 lf (.lst [.ref l1', .ref r1, .ref l3'])) e l) (.ref lf) (.list [.list [], .tuple [.str "overdue", .str t], .list []]) := .lst (SqL.of (S39.put nlf)) (.cons (dpSame g40 d1) (.cons (dpSame g40 d2) (.cons (dpSame g40 d3) .nil)))
    generalize upd H39 lf (.lst [.ref l1', .ref r1, .ref l3']) = H40 at S40 dF ⊢
    clear s40 g40 nlf d1 d2 d3 S36 S37 S38 S39 f37 f39 he EE s38 hr1
    try dsimp only [List.set]
    refine ⟨_, rfl, Nat.zero_le _, fun q1 n1 => ⟨_, rfl, by show 2 ≤ sizeLine; decide, fun q2 n2 => ⟨Nat.zero_le _, fun q3 n3 => ⟨by show 3 ≤ sizeLine; decide, fun q4 n4 => ?_⟩⟩⟩⟩
    refine tn_nil ?_
    have sD := (((Same.new n1 (o := .lst [])).trans (Same.new n2 (o := .tup [.str "overdue", .str t]))).trans (Same.new n3 (o := .lst []))).trans (Same.new n4 (o := .lst [.ref q1, .ref q2, .ref q3]))
    have dD : Dp K (upd (upd (upd (upd H40 q1 (.lst [])) q2 (.tup [.str "overdue", .str t])) q3 (.lst [])) q4 (.lst [.ref q1, .ref q2, .ref q3])) (.ref q4) (.list [.list [], .tuple [.str "overdue", .str t], .list []]) :=
      .lst (SqL.of upd_same) (.cons (.lst (SqL.of (Same.new n4 _ _ (Same.new n3 _ _ (Same.new n2 _ _ upd_same)))) .nil)
        (.cons (.tup (SqT.of (Same.new n4 _ _ (Same.new n3 _ _ upd_same))) (.cons (.str _) (.cons (.str _) .nil)))
        (.cons (.lst (SqL.of (Same.new n4 _ _ upd_same)) .nil) .nil)))
    refine ⟨_, _, _, rfl, dpSame (f2_same.trans sD) dF, dD, by simp [PyData.depth, PyData.depthAll], by simp [wid, widAll], fun H41 s41 => ⟨true, rfl, iteF ?_⟩⟩
    have S41 := S40.up (sD.trans s41)
    clear sD dD dF S40 s41 n1 n2 n3 n4
    -- the spans
    refine ⟨_, rfl, _, rfl, by show 3 ≤ sizeLine; decide, fun q1 n1 => ?_⟩
    refine ⟨_, rfl, _, rfl, _, _, rfl, rfl, _, rfl, _, rfl, _, _, rfl, rfl, _, _, rfl, rfl, _, rfl, _, _, rfl, rfl, by show 3 ≤ sizeLine; decide, fun q2 n2 => ⟨by show 2 ≤ sizeLine; decide, fun q3 n3 => ?_⟩⟩
    have S42 := S41.up (Same.new n1 (o := .tup [.str "done", .int wa, .int (wa + le)]))
    have S43 := S42.up (Same.new n2 (o := .tup [.str "done", .int (wa + le + ga), .int (wa + le + ga + 3 + mo)]))
    have S44 := S43.up (Same.new n3 (o := .lst [.ref q1, .ref q2]))
    have z1 := S41.put (u := .tup [.str "done", .int wa, .int (wa + le)]) n1
    have z2 := S42.put (u := .tup [.str "done", .int (wa + le + ga), .int (wa + le + ga + 3 + mo)]) n2
    have z3 := S43.put (u := .lst [.ref q1, .ref q2]) n3
    have m2 := f2_mono (e := e) (l := l) (Same.new n2 (o := .tup [.str "done", .int (wa + le + ga), .int (wa + le + ga + 3 + mo)]))
    have m3 := f2_mono (e := e) (l := l) (Same.new n3 (o := .lst [.ref q1, .ref q2]))
    have z1 := m3 _ _ (m2 _ _ z1)
    have z2 := m3 _ _ z2
    refine cast_heap (b := upd (upd (upd H41 q1 (.tup [.str "done", .int wa, .int (wa + le)])) q2 (.tup [.str "done", .int (wa + le + ga), .int (wa + le + ga + 3 + mo)])) q3 (.lst [.ref q1, .ref q2])) rfl ?_
    generalize upd (upd (upd H41 q1 (.tup [.str "done", .int wa, .int (wa + le)])) q2 (.tup [.str "done", .int (wa + le + ga), .int (wa + le + ga + 3 + mo)])) q3 (.lst [.ref q1, .ref q2]) = H44 at S44 z1 z2 z3 ⊢
    clear S41 S42 S43 m2 m3 n1 n2 n3
    dsimp only [List.set]
    refine ⟨_, rfl, _, rfl, _, rfl, by show 2 ≤ sizeLine; decide, fun q4 n4 => ?_⟩
    have S45 := S44.up (Same.new n4 (o := .lst [.str o, .str t]))
    have m4 := f2_mono (e := e) (l := l) (Same.new n4 (o := .lst [.str o, .str t]))
    have z4 := S44.put (u := .lst [.str o, .str t]) n4
    refine ⟨_, rfl, e, l, p, b, q4, q3, q1, q2, _, zs, o, t, wa, ga, le, mo, wa + le + ga + 3 + mo, wa, wa + le, wa + le + ga, _, _, H11, rfl, S45, W, by rw [List.length_append, List.length_append]; show past.length + 1 + 1 ≤ 800; omega, sN, by show 2 ≤ 900; decide, by show 2 ≤ 900; decide, lo1, lo1, l2t, l2t, SqL.of z4, m4 _ _ z3, SqT.of (m4 _ _ z1), SqT.of (m4 _ _ z2), fun H' s => ⟨true, rfl, iteF ?_⟩⟩
    exact ⟨_, _, _, _, _, _, _, _, _, _, _, _, rfl, hend H' s⟩
end
end K5
set_option Elab.async false
set_option linter.all false
set_option maxRecDepth 100000
set_option maxHeartbeats 0
namespace K5
open PySem PySem.Spec PyProof.Rows L2
theorem funOf {K : PySem.W.Frag} {x qual : Str} {st : Stmt} {f : Addr} {fd : FuncData} (F : FunD K x qual (defArgs st) (defBody st) (defScope st) [] [] f fd) : Fun K x qual st f fd := by
  obtain ⟨oc, od, dV, kV, doc, pm, an, cdv, ct, osl, e, lk, hc, hd, _⟩ := F.ex
  have ed : dV = .none := hd.elim (fun z => z.2) (fun z => absurd rfl z.1)
  subst ed
  exact ⟨⟨oc, od, kV, doc, pm, an, cdv, ct, osl, e, lk, hc⟩, F.kp⟩
theorem factsX {P : Program} {w : World} {K : PySem.W.Frag} {h : Heap} {mg : Str → Option Value} {fz : Addr} (X : K.In h) (G : h.Ns mainGlobals mg) (hfa : mg ("law" : Str) = some (.ref fz)) (c : He.SaysD faL fnL K) (ex : exB K = true) :
    ∃ fd : FuncData, (∀ (s : Shared) (v : Value), BindsTo s fd ⟨[v], []⟩ [("_law_script", v)]) ∧ ∀ base : Heap, K.In base → base.Ns mainGlobals mg → FnOk P w K mg base CX0 13 fz fd ["_law_script"] (spLaw K) := by
  obtain ⟨z_is_integer, F_is_integer⟩ := c.def_ 0 (d := dd_is_integer) (by rfl)
  obtain ⟨z_is_list, F_is_list⟩ := c.def_ 1 (d := dd_is_list) (by rfl)
  obtain ⟨z_is_name, F_is_name⟩ := c.def_ 2 (d := dd_is_name) (by rfl)
  obtain ⟨z_is_dish, F_is_dish⟩ := c.def_ 3 (d := dd_is_dish) (by rfl)
  obtain ⟨z_alike, F_alike⟩ := c.def_ 4 (d := dd_alike) (by rfl)
  obtain ⟨z_copied, F_copied⟩ := c.def_ 5 (d := dd_copied) (by rfl)
  obtain ⟨z_TooEarly___init__, F_TooEarly___init__⟩ := c.def_ 6 (d := dd_TooEarly___init__) (by rfl)
  obtain ⟨z_Overdue___init__, F_Overdue___init__⟩ := c.def_ 7 (d := dd_Overdue___init__) (by rfl)
  obtain ⟨z_TooSoon___init__, F_TooSoon___init__⟩ := c.def_ 8 (d := dd_TooSoon___init__) (by rfl)
  obtain ⟨z_is_bounds, F_is_bounds⟩ := c.def_ 9 (d := dd_is_bounds) (by rfl)
  obtain ⟨z_is_moment, F_is_moment⟩ := c.def_ 10 (d := dd_is_moment) (by rfl)
  obtain ⟨z_is_wish, F_is_wish⟩ := c.def_ 11 (d := dd_is_wish) (by rfl)
  obtain ⟨z_is_station, F_is_station⟩ := c.def_ 12 (d := dd_is_station) (by rfl)
  obtain ⟨z_as_moment, F_as_moment⟩ := c.def_ 13 (d := dd_as_moment) (by rfl)
  obtain ⟨z_as_wish, F_as_wish⟩ := c.def_ 14 (d := dd_as_wish) (by rfl)
  obtain ⟨z_check_dish, F_check_dish⟩ := c.def_ 15 (d := dd_check_dish) (by rfl)
  obtain ⟨z_check_same, F_check_same⟩ := c.def_ 16 (d := dd_check_same) (by rfl)
  obtain ⟨z_is_hook, F_is_hook⟩ := c.def_ 17 (d := dd_is_hook) (by rfl)
  obtain ⟨z_check_rounds, F_check_rounds⟩ := c.def_ 18 (d := dd_check_rounds) (by rfl)
  obtain ⟨z_round_from, F_round_from⟩ := c.def_ 19 (d := dd_round_from) (by rfl)
  obtain ⟨z_Book___init__, F_Book___init__⟩ := c.def_ 20 (d := dd_Book___init__) (by rfl)
  obtain ⟨z_Book_rows, F_Book_rows⟩ := c.def_ 21 (d := dd_Book_rows) (by rfl)
  obtain ⟨z_Book___getitem__, F_Book___getitem__⟩ := c.def_ 22 (d := dd_Book___getitem__) (by rfl)
  obtain ⟨z_Book___iter__, F_Book___iter__⟩ := c.def_ 23 (d := dd_Book___iter__) (by rfl)
  obtain ⟨z_check_entries, F_check_entries⟩ := c.def_ 24 (d := dd_check_entries) (by rfl)
  obtain ⟨z_is_entry, F_is_entry⟩ := c.def_ 25 (d := dd_is_entry) (by rfl)
  obtain ⟨z_is_wait, F_is_wait⟩ := c.def_ 26 (d := dd_is_wait) (by rfl)
  obtain ⟨z_Meal___init__, F_Meal___init__⟩ := c.def_ 27 (d := dd_Meal___init__) (by rfl)
  obtain ⟨z_Meal_dishes, F_Meal_dishes⟩ := c.def_ 28 (d := dd_Meal_dishes) (by rfl)
  obtain ⟨z_Meal___len__, F_Meal___len__⟩ := c.def_ 29 (d := dd_Meal___len__) (by rfl)
  obtain ⟨z_Meal___iter__, F_Meal___iter__⟩ := c.def_ 30 (d := dd_Meal___iter__) (by rfl)
  obtain ⟨z_Meal___add__, F_Meal___add__⟩ := c.def_ 31 (d := dd_Meal___add__) (by rfl)
  obtain ⟨z_check_dishes, F_check_dishes⟩ := c.def_ 32 (d := dd_check_dishes) (by rfl)
  obtain ⟨z_check_wishes, F_check_wishes⟩ := c.def_ 33 (d := dd_check_wishes) (by rfl)
  obtain ⟨z_check_stations, F_check_stations⟩ := c.def_ 34 (d := dd_check_stations) (by rfl)
  obtain ⟨z_Course___init__, F_Course___init__⟩ := c.def_ 35 (d := dd_Course___init__) (by rfl)
  obtain ⟨z_opened, F_opened⟩ := c.def_ 36 (d := dd_opened) (by rfl)
  obtain ⟨z_due, F_due⟩ := c.def_ 37 (d := dd_due) (by rfl)
  obtain ⟨z_started_until, F_started_until⟩ := c.def_ 38 (d := dd_started_until) (by rfl)
  obtain ⟨z_is_running, F_is_running⟩ := c.def_ 39 (d := dd_is_running) (by rfl)
  obtain ⟨z_state_of, F_state_of⟩ := c.def_ 40 (d := dd_state_of) (by rfl)
  obtain ⟨z_gone, F_gone⟩ := c.def_ 41 (d := dd_gone) (by rfl)
  obtain ⟨z_called, F_called⟩ := c.def_ 42 (d := dd_called) (by rfl)
  obtain ⟨z_put_in, F_put_in⟩ := c.def_ 43 (d := dd_put_in) (by rfl)
  obtain ⟨z_hung_at, F_hung_at⟩ := c.def_ 44 (d := dd_hung_at) (by rfl)
  obtain ⟨z_Evening___init__, F_Evening___init__⟩ := c.def_ 45 (d := dd_Evening___init__) (by rfl)
  obtain ⟨z_Evening_minute, F_Evening_minute⟩ := c.def_ 46 (d := dd_Evening_minute) (by rfl)
  obtain ⟨z_Evening_state, F_Evening_state⟩ := c.def_ 47 (d := dd_Evening_state) (by rfl)
  obtain ⟨z_Evening_go, F_Evening_go⟩ := c.def_ 48 (d := dd_Evening_go) (by rfl)
  obtain ⟨z_Evening_call, F_Evening_call⟩ := c.def_ 49 (d := dd_Evening_call) (by rfl)
  obtain ⟨z_Evening_put, F_Evening_put⟩ := c.def_ 50 (d := dd_Evening_put) (by rfl)
  obtain ⟨z_Evening_follow, F_Evening_follow⟩ := c.def_ 51 (d := dd_Evening_follow) (by rfl)
  obtain ⟨z_Evening_undo, F_Evening_undo⟩ := c.def_ 52 (d := dd_Evening_undo) (by rfl)
  obtain ⟨z__law_fresh, F__law_fresh⟩ := c.def_ 53 (d := dd__law_fresh) (by rfl)
  obtain ⟨z__law_take, F__law_take⟩ := c.def_ 54 (d := dd__law_take) (by rfl)
  obtain ⟨z__law_one, F__law_one⟩ := c.def_ 55 (d := dd__law_one) (by rfl)
  obtain ⟨z__law_mix, F__law_mix⟩ := c.def_ 56 (d := dd__law_mix) (by rfl)
  obtain ⟨z__law_same, F__law_same⟩ := c.def_ 57 (d := dd__law_same) (by rfl)
  obtain ⟨z__law_names, F__law_names⟩ := c.def_ 58 (d := dd__law_names) (by rfl)
  obtain ⟨z__law_refused, F__law_refused⟩ := c.def_ 59 (d := dd__law_refused) (by rfl)
  obtain ⟨z__law_is_over, F__law_is_over⟩ := c.def_ 60 (d := dd__law_is_over) (by rfl)
  obtain ⟨z__law_number, F__law_number⟩ := c.def_ 61 (d := dd__law_number) (by rfl)
  obtain ⟨z_law, F_law⟩ := c.def_ 62 (d := dd_law) (by rfl)
  have gl : ∀ {x : Str} (i : Nat), faL[i]? = some (.glo x) → mg x = some (.ref (He.ga K x)) := fun i e => He.glo_ok X G (c.fact i e)
  have fr : ∀ {x : Str} (i : Nat), faL[i]? = some (.free x) → mg x = none := fun i e => He.free_ok X G (c.fact i e)
  have e := hfa.symm.trans (gl 41 (by rfl))
  cases e
  have T : Txt K mg ({ a_is_integer := (He.ga K "is_integer"), d_is_integer := z_is_integer, a_is_list := (He.ga K "is_list"), d_is_list := z_is_list, a_is_name := (He.ga K "is_name"), d_is_name := z_is_name, a_is_dish := (He.ga K "is_dish"), d_is_dish := z_is_dish, a_alike := (He.ga K "alike"), d_alike := z_alike, a_copied := (He.ga K "copied"), d_copied := z_copied, a_TooEarly___init__ := (He.ma K (He.ga K "TooEarly") "__init__"), d_TooEarly___init__ := z_TooEarly___init__, a_Overdue___init__ := (He.ma K (He.ga K "Overdue") "__init__"), d_Overdue___init__ := z_Overdue___init__, a_TooSoon___init__ := (He.ma K (He.ga K "TooSoon") "__init__"), d_TooSoon___init__ := z_TooSoon___init__, a_is_bounds := (He.ga K "is_bounds"), d_is_bounds := z_is_bounds, a_is_moment := (He.ga K "is_moment"), d_is_moment := z_is_moment, a_is_wish := (He.ga K "is_wish"), d_is_wish := z_is_wish, a_is_station := (He.ga K "is_station"), d_is_station := z_is_station, a_as_moment := (He.ga K "as_moment"), d_as_moment := z_as_moment, a_as_wish := (He.ga K "as_wish"), d_as_wish := z_as_wish, a_check_dish := (He.ga K "check_dish"), d_check_dish := z_check_dish, a_check_same := (He.ga K "check_same"), d_check_same := z_check_same, a_is_hook := (He.ga K "is_hook"), d_is_hook := z_is_hook, a_check_rounds := (He.ga K "check_rounds"), d_check_rounds := z_check_rounds, a_round_from := (He.ga K "round_from"), d_round_from := z_round_from, a_Book___init__ := (He.ma K (He.ga K "Book") "__init__"), d_Book___init__ := z_Book___init__, a_Book_rows := (He.ma K (He.ga K "Book") "rows"), d_Book_rows := z_Book_rows, a_Book___getitem__ := (He.ma K (He.ga K "Book") "__getitem__"), d_Book___getitem__ := z_Book___getitem__, a_Book___iter__ := (He.ma K (He.ga K "Book") "__iter__"), d_Book___iter__ := z_Book___iter__, a_check_entries := (He.ga K "check_entries"), d_check_entries := z_check_entries, a_is_entry := (He.ga K "is_entry"), d_is_entry := z_is_entry, a_is_wait := (He.ga K "is_wait"), d_is_wait := z_is_wait, a_Meal___init__ := (He.ma K (He.ga K "Meal") "__init__"), d_Meal___init__ := z_Meal___init__, a_Meal_dishes := (He.ma K (He.ga K "Meal") "dishes"), d_Meal_dishes := z_Meal_dishes, a_Meal___len__ := (He.ma K (He.ga K "Meal") "__len__"), d_Meal___len__ := z_Meal___len__, a_Meal___iter__ := (He.ma K (He.ga K "Meal") "__iter__"), d_Meal___iter__ := z_Meal___iter__, a_Meal___add__ := (He.ma K (He.ga K "Meal") "__add__"), d_Meal___add__ := z_Meal___add__, a_check_dishes := (He.ga K "check_dishes"), d_check_dishes := z_check_dishes, a_check_wishes := (He.ga K "check_wishes"), d_check_wishes := z_check_wishes, a_check_stations := (He.ga K "check_stations"), d_check_stations := z_check_stations, a_Course___init__ := (He.ma K (He.ga K "Course") "__init__"), d_Course___init__ := z_Course___init__, a_opened := (He.ga K "opened"), d_opened := z_opened, a_due := (He.ga K "due"), d_due := z_due, a_started_until := (He.ga K "started_until"), d_started_until := z_started_until, a_is_running := (He.ga K "is_running"), d_is_running := z_is_running, a_state_of := (He.ga K "state_of"), d_state_of := z_state_of, a_gone := (He.ga K "gone"), d_gone := z_gone, a_called := (He.ga K "called"), d_called := z_called, a_put_in := (He.ga K "put_in"), d_put_in := z_put_in, a_hung_at := (He.ga K "hung_at"), d_hung_at := z_hung_at, a_Evening___init__ := (He.ma K (He.ga K "Evening") "__init__"), d_Evening___init__ := z_Evening___init__, a_Evening_minute := (He.ma K (He.ga K "Evening") "minute"), d_Evening_minute := z_Evening_minute, a_Evening_state := (He.ma K (He.ga K "Evening") "state"), d_Evening_state := z_Evening_state, a_Evening_go := (He.ma K (He.ga K "Evening") "go"), d_Evening_go := z_Evening_go, a_Evening_call := (He.ma K (He.ga K "Evening") "call"), d_Evening_call := z_Evening_call, a_Evening_put := (He.ma K (He.ga K "Evening") "put"), d_Evening_put := z_Evening_put, a_Evening_follow := (He.ma K (He.ga K "Evening") "follow"), d_Evening_follow := z_Evening_follow, a_Evening_undo := (He.ma K (He.ga K "Evening") "undo"), d_Evening_undo := z_Evening_undo, a__law_fresh := (He.ga K "_law_fresh"), d__law_fresh := z__law_fresh, a__law_take := (He.ga K "_law_take"), d__law_take := z__law_take, a__law_one := (He.ga K "_law_one"), d__law_one := z__law_one, a__law_mix := (He.ga K "_law_mix"), d__law_mix := z__law_mix, a__law_same := (He.ga K "_law_same"), d__law_same := z__law_same, a__law_names := (He.ga K "_law_names"), d__law_names := z__law_names, a__law_refused := (He.ga K "_law_refused"), d__law_refused := z__law_refused, a__law_is_over := (He.ga K "_law_is_over"), d__law_is_over := z__law_is_over, a__law_number := (He.ga K "_law_number"), d__law_number := z__law_number, a_law := (He.ga K "law"), d_law := z_law, a_TooEarly := He.ga K "TooEarly", a_Overdue := He.ga K "Overdue", a_TooSoon := He.ga K "TooSoon", a_Book := He.ga K "Book", a_Meal := He.ga K "Meal", a_Course := He.ga K "Course", a_Evening := He.ga K "Evening", a_EDGES := (He.ga K "EDGES"), a_W0 := (He.dflAt ("Meal", some "__init__") 0 K), a_S0 := (He.dflAt ("Meal", some "__init__") 1 K) } : Ad) := {
    f_is_integer := funOf (st := s_is_integer) F_is_integer
    g_is_integer := gl 0 (by rfl)
    b_is_integer := (funOf (st := s_is_integer) F_is_integer).binds fun _ _ _ _ _ _ us hl => match us, hl with | [_], _ => rfl
    f_is_list := funOf (st := s_is_list) F_is_list
    g_is_list := gl 1 (by rfl)
    b_is_list := (funOf (st := s_is_list) F_is_list).binds fun _ _ _ _ _ _ us hl => match us, hl with | [_], _ => rfl
    f_is_name := funOf (st := s_is_name) F_is_name
    g_is_name := gl 2 (by rfl)
    b_is_name := (funOf (st := s_is_name) F_is_name).binds fun _ _ _ _ _ _ us hl => match us, hl with | [_], _ => rfl
    f_is_dish := funOf (st := s_is_dish) F_is_dish
    g_is_dish := gl 3 (by rfl)
    b_is_dish := (funOf (st := s_is_dish) F_is_dish).binds fun _ _ _ _ _ _ us hl => match us, hl with | [_, _], _ => rfl
    f_alike := funOf (st := s_alike) F_alike
    g_alike := gl 4 (by rfl)
    b_alike := (funOf (st := s_alike) F_alike).binds fun _ _ _ _ _ _ us hl => match us, hl with | [_, _], _ => rfl
    f_copied := funOf (st := s_copied) F_copied
    g_copied := gl 5 (by rfl)
    b_copied := (funOf (st := s_copied) F_copied).binds fun _ _ _ _ _ _ us hl => match us, hl with | [_], _ => rfl
    f_TooEarly___init__ := funOf (st := s_TooEarly___init__) F_TooEarly___init__
    b_TooEarly___init__ := (funOf (st := s_TooEarly___init__) F_TooEarly___init__).binds fun _ _ _ _ _ _ us hl => match us, hl with | [_, _], _ => rfl
    f_Overdue___init__ := funOf (st := s_Overdue___init__) F_Overdue___init__
    b_Overdue___init__ := (funOf (st := s_Overdue___init__) F_Overdue___init__).binds fun _ _ _ _ _ _ us hl => match us, hl with | [_, _], _ => rfl
    f_TooSoon___init__ := funOf (st := s_TooSoon___init__) F_TooSoon___init__
    b_TooSoon___init__ := (funOf (st := s_TooSoon___init__) F_TooSoon___init__).binds fun _ _ _ _ _ _ us hl => match us, hl with | [_, _], _ => rfl
    f_is_bounds := funOf (st := s_is_bounds) F_is_bounds
    g_is_bounds := gl 6 (by rfl)
    b_is_bounds := (funOf (st := s_is_bounds) F_is_bounds).binds fun _ _ _ _ _ _ us hl => match us, hl with | [_], _ => rfl
    f_is_moment := funOf (st := s_is_moment) F_is_moment
    g_is_moment := gl 7 (by rfl)
    b_is_moment := (funOf (st := s_is_moment) F_is_moment).binds fun _ _ _ _ _ _ us hl => match us, hl with | [_, _], _ => rfl
    f_is_wish := funOf (st := s_is_wish) F_is_wish
    g_is_wish := gl 8 (by rfl)
    b_is_wish := (funOf (st := s_is_wish) F_is_wish).binds fun _ _ _ _ _ _ us hl => match us, hl with | [_, _], _ => rfl
    f_is_station := funOf (st := s_is_station) F_is_station
    g_is_station := gl 9 (by rfl)
    b_is_station := (funOf (st := s_is_station) F_is_station).binds fun _ _ _ _ _ _ us hl => match us, hl with | [_, _], _ => rfl
    f_as_moment := funOf (st := s_as_moment) F_as_moment
    g_as_moment := gl 10 (by rfl)
    b_as_moment := (funOf (st := s_as_moment) F_as_moment).binds fun _ _ _ _ _ _ us hl => match us, hl with | [_], _ => rfl
    f_as_wish := funOf (st := s_as_wish) F_as_wish
    g_as_wish := gl 11 (by rfl)
    b_as_wish := (funOf (st := s_as_wish) F_as_wish).binds fun _ _ _ _ _ _ us hl => match us, hl with | [_], _ => rfl
    f_check_dish := funOf (st := s_check_dish) F_check_dish
    g_check_dish := gl 12 (by rfl)
    b_check_dish := (funOf (st := s_check_dish) F_check_dish).binds fun _ _ _ _ _ _ us hl => match us, hl with | [_, _], _ => rfl
    f_check_same := funOf (st := s_check_same) F_check_same
    g_check_same := gl 13 (by rfl)
    b_check_same := (funOf (st := s_check_same) F_check_same).binds fun _ _ _ _ _ _ us hl => match us, hl with | [_, _], _ => rfl
    f_is_hook := funOf (st := s_is_hook) F_is_hook
    g_is_hook := gl 14 (by rfl)
    b_is_hook := (funOf (st := s_is_hook) F_is_hook).binds fun _ _ _ _ _ _ us hl => match us, hl with | [_, _], _ => rfl
    f_check_rounds := funOf (st := s_check_rounds) F_check_rounds
    g_check_rounds := gl 15 (by rfl)
    b_check_rounds := (funOf (st := s_check_rounds) F_check_rounds).binds fun _ _ _ _ _ _ us hl => match us, hl with | [_], _ => rfl
    f_round_from := funOf (st := s_round_from) F_round_from
    g_round_from := gl 16 (by rfl)
    b_round_from := (funOf (st := s_round_from) F_round_from).binds fun _ _ _ _ _ _ us hl => match us, hl with | [_, _], _ => rfl
    f_Book___init__ := funOf (st := s_Book___init__) F_Book___init__
    b_Book___init__ := (funOf (st := s_Book___init__) F_Book___init__).binds fun _ _ _ _ _ _ us hl => match us, hl with | [_, _], _ => rfl
    f_Book_rows := funOf (st := s_Book_rows) F_Book_rows
    b_Book_rows := (funOf (st := s_Book_rows) F_Book_rows).binds fun _ _ _ _ _ _ us hl => match us, hl with | [_], _ => rfl
    f_Book___getitem__ := funOf (st := s_Book___getitem__) F_Book___getitem__
    b_Book___getitem__ := (funOf (st := s_Book___getitem__) F_Book___getitem__).binds fun _ _ _ _ _ _ us hl => match us, hl with | [_, _], _ => rfl
    f_Book___iter__ := funOf (st := s_Book___iter__) F_Book___iter__
    b_Book___iter__ := (funOf (st := s_Book___iter__) F_Book___iter__).binds fun _ _ _ _ _ _ us hl => match us, hl with | [_], _ => rfl
    f_check_entries := funOf (st := s_check_entries) F_check_entries
    g_check_entries := gl 17 (by rfl)
    b_check_entries := (funOf (st := s_check_entries) F_check_entries).binds fun _ _ _ _ _ _ us hl => match us, hl with | [_], _ => rfl
    f_is_entry := funOf (st := s_is_entry) F_is_entry
    g_is_entry := gl 18 (by rfl)
    b_is_entry := (funOf (st := s_is_entry) F_is_entry).binds fun _ _ _ _ _ _ us hl => match us, hl with | [_, _], _ => rfl
    f_is_wait := funOf (st := s_is_wait) F_is_wait
    g_is_wait := gl 19 (by rfl)
    b_is_wait := (funOf (st := s_is_wait) F_is_wait).binds fun _ _ _ _ _ _ us hl => match us, hl with | [_], _ => rfl
    f_Meal___init__ := F_Meal___init__
    f_Meal_dishes := funOf (st := s_Meal_dishes) F_Meal_dishes
    b_Meal_dishes := (funOf (st := s_Meal_dishes) F_Meal_dishes).binds fun _ _ _ _ _ _ us hl => match us, hl with | [_], _ => rfl
    f_Meal___len__ := funOf (st := s_Meal___len__) F_Meal___len__
    b_Meal___len__ := (funOf (st := s_Meal___len__) F_Meal___len__).binds fun _ _ _ _ _ _ us hl => match us, hl with | [_], _ => rfl
    f_Meal___iter__ := funOf (st := s_Meal___iter__) F_Meal___iter__
    b_Meal___iter__ := (funOf (st := s_Meal___iter__) F_Meal___iter__).binds fun _ _ _ _ _ _ us hl => match us, hl with | [_], _ => rfl
    f_Meal___add__ := funOf (st := s_Meal___add__) F_Meal___add__
    b_Meal___add__ := (funOf (st := s_Meal___add__) F_Meal___add__).binds fun _ _ _ _ _ _ us hl => match us, hl with | [_, _], _ => rfl
    f_check_dishes := funOf (st := s_check_dishes) F_check_dishes
    g_check_dishes := gl 20 (by rfl)
    b_check_dishes := (funOf (st := s_check_dishes) F_check_dishes).binds fun _ _ _ _ _ _ us hl => match us, hl with | [_], _ => rfl
    f_check_wishes := funOf (st := s_check_wishes) F_check_wishes
    g_check_wishes := gl 21 (by rfl)
    b_check_wishes := (funOf (st := s_check_wishes) F_check_wishes).binds fun _ _ _ _ _ _ us hl => match us, hl with | [_, _], _ => rfl
    f_check_stations := funOf (st := s_check_stations) F_check_stations
    g_check_stations := gl 22 (by rfl)
    b_check_stations := (funOf (st := s_check_stations) F_check_stations).binds fun _ _ _ _ _ _ us hl => match us, hl with | [_, _], _ => rfl
    f_Course___init__ := funOf (st := s_Course___init__) F_Course___init__
    b_Course___init__ := (funOf (st := s_Course___init__) F_Course___init__).binds fun _ _ _ _ _ _ us hl => match us, hl with | [_, _, _, _, _, _], _ => rfl
    f_opened := funOf (st := s_opened) F_opened
    g_opened := gl 23 (by rfl)
    b_opened := (funOf (st := s_opened) F_opened).binds fun _ _ _ _ _ _ us hl => match us, hl with | [_, _], _ => rfl
    f_due := funOf (st := s_due) F_due
    g_due := gl 24 (by rfl)
    b_due := (funOf (st := s_due) F_due).binds fun _ _ _ _ _ _ us hl => match us, hl with | [_, _], _ => rfl
    f_started_until := funOf (st := s_started_until) F_started_until
    g_started_until := gl 25 (by rfl)
    b_started_until := (funOf (st := s_started_until) F_started_until).binds fun _ _ _ _ _ _ us hl => match us, hl with | [_, _], _ => rfl
    f_is_running := funOf (st := s_is_running) F_is_running
    g_is_running := gl 26 (by rfl)
    b_is_running := (funOf (st := s_is_running) F_is_running).binds fun _ _ _ _ _ _ us hl => match us, hl with | [_, _], _ => rfl
    f_state_of := funOf (st := s_state_of) F_state_of
    g_state_of := gl 27 (by rfl)
    b_state_of := (funOf (st := s_state_of) F_state_of).binds fun _ _ _ _ _ _ us hl => match us, hl with | [_, _], _ => rfl
    f_gone := funOf (st := s_gone) F_gone
    g_gone := gl 28 (by rfl)
    b_gone := (funOf (st := s_gone) F_gone).binds fun _ _ _ _ _ _ us hl => match us, hl with | [_, _], _ => rfl
    f_called := funOf (st := s_called) F_called
    g_called := gl 29 (by rfl)
    b_called := (funOf (st := s_called) F_called).binds fun _ _ _ _ _ _ us hl => match us, hl with | [_, _], _ => rfl
    f_put_in := funOf (st := s_put_in) F_put_in
    g_put_in := gl 30 (by rfl)
    b_put_in := (funOf (st := s_put_in) F_put_in).binds fun _ _ _ _ _ _ us hl => match us, hl with | [_, _, _, _, _, _], _ => rfl
    f_hung_at := funOf (st := s_hung_at) F_hung_at
    g_hung_at := gl 31 (by rfl)
    b_hung_at := (funOf (st := s_hung_at) F_hung_at).binds fun _ _ _ _ _ _ us hl => match us, hl with | [_, _, _, _], _ => rfl
    f_Evening___init__ := funOf (st := s_Evening___init__) F_Evening___init__
    b_Evening___init__ := (funOf (st := s_Evening___init__) F_Evening___init__).binds fun _ _ _ _ _ _ us hl => match us, hl with | [_, _, _], _ => rfl
    f_Evening_minute := funOf (st := s_Evening_minute) F_Evening_minute
    b_Evening_minute := (funOf (st := s_Evening_minute) F_Evening_minute).binds fun _ _ _ _ _ _ us hl => match us, hl with | [_], _ => rfl
    f_Evening_state := funOf (st := s_Evening_state) F_Evening_state
    b_Evening_state := (funOf (st := s_Evening_state) F_Evening_state).binds fun _ _ _ _ _ _ us hl => match us, hl with | [_, _], _ => rfl
    f_Evening_go := funOf (st := s_Evening_go) F_Evening_go
    b_Evening_go := (funOf (st := s_Evening_go) F_Evening_go).binds fun _ _ _ _ _ _ us hl => match us, hl with | [_, _], _ => rfl
    f_Evening_call := funOf (st := s_Evening_call) F_Evening_call
    b_Evening_call := (funOf (st := s_Evening_call) F_Evening_call).binds fun _ _ _ _ _ _ us hl => match us, hl with | [_, _], _ => rfl
    f_Evening_put := funOf (st := s_Evening_put) F_Evening_put
    b_Evening_put := (funOf (st := s_Evening_put) F_Evening_put).binds fun _ _ _ _ _ _ us hl => match us, hl with | [_, _, _, _, _, _], _ => rfl
    f_Evening_follow := funOf (st := s_Evening_follow) F_Evening_follow
    b_Evening_follow := (funOf (st := s_Evening_follow) F_Evening_follow).binds fun _ _ _ _ _ _ us hl => match us, hl with | [_, _], _ => rfl
    f_Evening_undo := funOf (st := s_Evening_undo) F_Evening_undo
    b_Evening_undo := (funOf (st := s_Evening_undo) F_Evening_undo).binds fun _ _ _ _ _ _ us hl => match us, hl with | [_], _ => rfl
    f__law_fresh := funOf (st := s__law_fresh) F__law_fresh
    g__law_fresh := gl 32 (by rfl)
    b__law_fresh := (funOf (st := s__law_fresh) F__law_fresh).binds fun _ _ _ _ _ _ us hl => match us, hl with | [_], _ => rfl
    f__law_take := funOf (st := s__law_take) F__law_take
    g__law_take := gl 33 (by rfl)
    b__law_take := (funOf (st := s__law_take) F__law_take).binds fun _ _ _ _ _ _ us hl => match us, hl with | [_, _], _ => rfl
    f__law_one := funOf (st := s__law_one) F__law_one
    g__law_one := gl 34 (by rfl)
    b__law_one := (funOf (st := s__law_one) F__law_one).binds fun _ _ _ _ _ _ us hl => match us, hl with | [_, _], _ => rfl
    f__law_mix := funOf (st := s__law_mix) F__law_mix
    g__law_mix := gl 35 (by rfl)
    b__law_mix := (funOf (st := s__law_mix) F__law_mix).binds fun _ _ _ _ _ _ us hl => match us, hl with | [_, _], _ => rfl
    f__law_same := funOf (st := s__law_same) F__law_same
    g__law_same := gl 36 (by rfl)
    b__law_same := (funOf (st := s__law_same) F__law_same).binds fun _ _ _ _ _ _ us hl => match us, hl with | [_, _], _ => rfl
    f__law_names := funOf (st := s__law_names) F__law_names
    g__law_names := gl 37 (by rfl)
    b__law_names := (funOf (st := s__law_names) F__law_names).binds fun _ _ _ _ _ _ us hl => match us, hl with | [_, _], _ => rfl
    f__law_refused := funOf (st := s__law_refused) F__law_refused
    g__law_refused := gl 38 (by rfl)
    b__law_refused := (funOf (st := s__law_refused) F__law_refused).binds fun _ _ _ _ _ _ us hl => match us, hl with | [_, _, _, _], _ => rfl
    f__law_is_over := funOf (st := s__law_is_over) F__law_is_over
    g__law_is_over := gl 39 (by rfl)
    b__law_is_over := (funOf (st := s__law_is_over) F__law_is_over).binds fun _ _ _ _ _ _ us hl => match us, hl with | [_, _, _], _ => rfl
    f__law_number := funOf (st := s__law_number) F__law_number
    g__law_number := gl 40 (by rfl)
    b__law_number := (funOf (st := s__law_number) F__law_number).binds fun _ _ _ _ _ _ us hl => match us, hl with | [_], _ => rfl
    f_law := funOf (st := s_law) F_law
    g_law := gl 41 (by rfl)
    b_law := (funOf (st := s_law) F_law).binds fun _ _ _ _ _ _ us hl => match us, hl with | [_], _ => rfl
    g_CLOCK := He.str_ok X G (c.fact 49 (by rfl))
    g_LETTERS := He.str_ok X G (c.fact 50 (by rfl))
    g_LONGEST_NAME := He.int_ok X G (c.fact 51 (by rfl))
    len := fr 52 (by rfl)
    abs := fr 53 (by rfl)
    int := fr 54 (by rfl)
    list := fr 55 (by rfl)
    tuple := fr 56 (by rfl)
    bool := fr 57 (by rfl)
    str := fr 58 (by rfl)
    dict := fr 59 (by rfl)
    isinstance := fr 60 (by rfl)
    all := fr 61 (by rfl)
    any := fr 62 (by rfl)
    zip := fr 63 (by rfl)
    enumerate := fr 64 (by rfl)
    range := fr 65 (by rfl)
    sorted := fr 66 (by rfl)
    set := fr 67 (by rfl)
    iter := fr 68 (by rfl)
    bM1 := F_Meal___init__.binds1 2 0 (show ¬ He.DefD.dvs K dd_Meal___init__ = [] from List.cons_ne_nil _ _) rfl fun _ _ _ _ _ _ _ us its hu hi => match us, its, hu, hi with | [_, _], [_, _], _, _ => ⟨_, rfl, by kernel_rfl⟩
    b_Meal___init__ := by
      obtain ⟨ds, hv, hb⟩ := F_Meal___init__.binds1 (ps := P_Meal___init__) 4 2 (show ¬ He.DefD.dvs K dd_Meal___init__ = [] from List.cons_ne_nil _ _) rfl fun _ _ _ _ _ _ _ us its hu hi => match us, its, hu, hi with | [_, _, _, _], [_, _], _, _ => ⟨_, rfl, by kernel_rfl⟩
      cases hv
      exact hb
    cl_B := He.cls_ok (c.fact (f := .cls "Book") 69 (by rfl))
    cl_Co := He.cls_ok (c.fact (f := .cls "Course") 70 (by rfl))
    cl_Ev := He.cls_ok (c.fact (f := .cls "Evening") 71 (by rfl))
    cl_M := He.cls_ok (c.fact (f := .cls "Meal") 72 (by rfl))
    e0 := tupA_ok (atB ex (i := 0) rfl) _
    e0W := tupA_ok (atB ex (i := 1) rfl) _
    eOv := of_decide_eq_true (atB ex (i := 2) rfl)
    eTe := of_decide_eq_true (atB ex (i := 3) rfl)
    eTeOv := of_decide_eq_true (atB ex (i := 4) rfl)
    eTeTs := of_decide_eq_true (atB ex (i := 5) rfl)
    eTs := of_decide_eq_true (atB ex (i := 6) rfl)
    eTsOv := of_decide_eq_true (atB ex (i := 7) rfl)
    g_Book := He.glo_ok X G (c.fact (f := .glo "Book") 45 (by rfl))
    g_Course := He.glo_ok X G (c.fact (f := .glo "Course") 47 (by rfl))
    g_EDGES := He.glo_ok X G (c.fact (f := .glo "EDGES") 73 (by rfl))
    g_Evening := He.glo_ok X G (c.fact (f := .glo "Evening") 48 (by rfl))
    g_Meal := He.glo_ok X G (c.fact (f := .glo "Meal") 46 (by rfl))
    g_Overdue := He.glo_ok X G (c.fact (f := .glo "Overdue") 43 (by rfl))
    g_TooEarly := He.glo_ok X G (c.fact (f := .glo "TooEarly") 42 (by rfl))
    g_TooSoon := He.glo_ok X G (c.fact (f := .glo "TooSoon") 44 (by rfl))
    iOv := (mi_of (c.fact (f := .meth "Overdue" "__init__") 74 (by rfl))).1
    iTe := (mi_of (c.fact (f := .meth "TooEarly" "__init__") 75 (by rfl))).1
    iTs := (mi_of (c.fact (f := .meth "TooSoon" "__init__") 76 (by rfl))).1
    m_callE := He.meth_ok (c.fact (f := .meth "Evening" "call") 77 (by rfl))
    m_dishes := He.meth_ok (c.fact (f := .meth "Meal" "dishes") 78 (by rfl))
    m_followE := He.meth_ok (c.fact (f := .meth "Evening" "follow") 79 (by rfl))
    m_goE := He.meth_ok (c.fact (f := .meth "Evening" "go") 80 (by rfl))
    m_iterB := mi_of (c.fact (f := .meth "Book" "__iter__") 81 (by rfl))
    m_iterM := mi_of (c.fact (f := .meth "Meal" "__iter__") 82 (by rfl))
    m_itm := of_decide_eq_true (atB ex (i := 8) rfl)
    m_lenM := mi_of (c.fact (f := .meth "Meal" "__len__") 83 (by rfl))
    m_minuteE := He.meth_ok (c.fact (f := .meth "Evening" "minute") 84 (by rfl))
    m_putE := He.meth_ok (c.fact (f := .meth "Evening" "put") 85 (by rfl))
    m_rowsB := He.meth_ok (c.fact (f := .meth "Book" "rows") 86 (by rfl))
    m_stateE := He.meth_ok (c.fact (f := .meth "Evening" "state") 87 (by rfl))
    m_undoE := He.meth_ok (c.fact (f := .meth "Evening" "undo") 88 (by rfl))
    mkB := He.mkr_ok (c.fact (f := .mkr "Book") 89 (by rfl))
    mkCo := He.mkr_ok (c.fact (f := .mkr "Course") 90 (by rfl))
    mkEv := He.mkr_ok (c.fact (f := .mkr "Evening") 91 (by rfl))
    mkM := He.mkr_ok (c.fact (f := .mkr "Meal") 92 (by rfl))
    nB := He.noat_ok (c.fact (f := .noat "Meal" "bounds") 93 (by rfl))
    nBH := He.noat_ok (c.fact (f := .noat "Book" "hooks") 94 (by rfl))
    nBW := He.noat_ok (c.fact (f := .noat "Book" "waits") 95 (by rfl))
    nCoB := He.noat_ok (c.fact (f := .noat "Course" "plan") 96 (by rfl))
    nCoD := He.noat_ok (c.fact (f := .noat "Course" "dinner") 97 (by rfl))
    nCoE := He.noat_ok (c.fact (f := .noat "Course" "dones") 98 (by rfl))
    nCoP := He.noat_ok (c.fact (f := .noat "Course" "passed") 99 (by rfl))
    nCoS := He.noat_ok (c.fact (f := .noat "Course" "starts") 100 (by rfl))
    nEvC := He.noat_ok (c.fact (f := .noat "Evening" "course") 101 (by rfl))
    nEvP := He.noat_ok (c.fact (f := .noat "Evening" "past") 102 (by rfl))
    nHintB := He.noat_ok (c.fact (f := .noat "Book" "__length_hint__") 103 (by rfl))
    nLenB := He.noat_ok (c.fact (f := .noat "Book" "__len__") 104 (by rfl))
    nOv := He.noat_ok (c.fact (f := .noat "Overdue" "name") 105 (by rfl))
    nP := He.noat_ok (c.fact (f := .noat "Meal" "places") 106 (by rfl))
    nTe := He.noat_ok (c.fact (f := .noat "TooEarly" "name") 107 (by rfl))
    nTs := He.noat_ok (c.fact (f := .noat "TooSoon" "name") 108 (by rfl))
    nW := He.noat_ok (c.fact (f := .noat "Meal" "wished") 109 (by rfl))
    oAdd := of_decide_eq_true (atB ex (i := 9) rfl)
    sfM := of_decide_eq_true (atB ex (i := 10) rfl)
    tOv := of_decide_eq_true (atB ex (i := 11) rfl)
    tTe := of_decide_eq_true (atB ex (i := 12) rfl)
    tTs := of_decide_eq_true (atB ex (i := 13) rfl)
    t_EDGES := He.tupB_ok (atB ex (i := 14) rfl) _
    xOv := oex_of X (atB ex (i := 15) rfl) (atB ex (i := 16) rfl) (of_decide_eq_true (atB ex (i := 17) rfl)) (of_decide_eq_true (atB ex (i := 18) rfl)) (of_decide_eq_true (atB ex (i := 19) rfl)) (atB ex (i := 20) rfl)
    xTe := oex_of X (atB ex (i := 21) rfl) (atB ex (i := 22) rfl) (of_decide_eq_true (atB ex (i := 23) rfl)) (of_decide_eq_true (atB ex (i := 24) rfl)) (of_decide_eq_true (atB ex (i := 25) rfl)) (atB ex (i := 26) rfl)
    xTs := oex_of X (atB ex (i := 27) rfl) (atB ex (i := 28) rfl) (of_decide_eq_true (atB ex (i := 29) rfl)) (of_decide_eq_true (atB ex (i := 30) rfl)) (of_decide_eq_true (atB ex (i := 31) rfl)) (atB ex (i := 32) rfl)
    xfOv := L2.xfB_ok (atB ex (i := 33) rfl)
    xfTe := L2.xfB_ok (atB ex (i := 34) rfl)
    xfTs := L2.xfB_ok (atB ex (i := 35) rfl) }
  refine ⟨_, fun s v => ?_, fun base _ _ => ok_law T⟩
  obtain ⟨oc, od, kV, doc, pm, an, cdv, ct, osl, e, _⟩ := (funOf (st := s_law) F_law).ex
  rw [e]
  exact .of_eq rfl
end K5
open PySem PySem.W PySem.Calls PyProof.Rows in
set_option maxHeartbeats 0 in
theorem PySem.Challenge.cw_cookcalls_k57_evenings_far_holds : PySem.Challenge.rw_cookcalls_k57_evenings_far.Holds := by
  w_on; o_law
  refine HandSHeadRun.head_any (r := OpenLaw.row PySem.Challenge.rw_cookcalls_k57_evenings_far) (q := view (OpenLaw.row PySem.Challenge.rw_cookcalls_k57_evenings_far).prog [86]) (H := K5.hkX) (ob := K5.obX) (M := 20000) (loose := K5.nmL) (d := HandSHeadRun.topDef (OpenLaw.row PySem.Challenge.rw_cookcalls_k57_evenings_far).prog 86) (kwd := []) K5.obX_eq
    (by kernel_rfl) (fun s => by kernel_rfl) K5.runX (by kernel_rfl) (by kernel_rfl) (by kernel_rfl) (by rfl) (by first | assumption | decide +kernel) (by decide +kernel) ⟨rfl, rfl, rfl, rfl, rfl, by decide +kernel⟩ ?hw ?hc
  case hw => w_witness2
  case hc =>
    refine L2.walk_ofE (l := PySem.Challenge.rw_cookcalls_k57_evenings_far) (n := 63) (k := 13) (x := "_law_script") (CX := L2.CX0) rfl (by decide) (by kernel_rfl) ⟨rfl, by decide, by decide⟩ ?F (fun _ _ _ _ z => z)
    intro w mg fz h Y G hmg0
    obtain ⟨K, KX, c⟩ := Y
    have hmg : mg ("law" : PySem.Str) = some (.ref fz) := by
      have e : (HandSHeadRun.topDef (OpenLaw.row PySem.Challenge.rw_cookcalls_k57_evenings_far).prog 86).name = ("law" : PySem.Str) := by kernel_rfl
      rw [← e]
      exact hmg0
    obtain ⟨fd, hb, hF⟩ := K5.factsX (P := (PySem.Challenge.rw_cookcalls_k57_evenings_far).prog) (w := w) KX G hmg c.d c.e
    exact ⟨K, fd, K5.spLaw K, KX, hb, fun H a ns hl _ hS => ⟨a, ns, rfl, hS, hl, fun _ => rfl⟩, hF⟩
