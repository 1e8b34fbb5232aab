import PyProof.Rows.All
import Wide.All
import OpenK.AllK
import Wide.FinOn
import HandS.ForMost
import HandS.Wide
import HandS.IsInst
import HandS.Deep
import HandS.TupAny
import HandS.Flow
import HandS.Zip
import HandS.Defaults
import HandS.More
import HandS.DictComp
import HandS.WordsDict
import HandS.OwnEq
import HandS.Style
import HandS.Lambda
import HandS.TryMany
import HandS.ExcInit
import HandS.ExcField
import HandS.ForDict
import HandS.EndTab
import PyProof.Rows.StrMeet
import HandS.Star
import HandS.WordsExc
import HandS.ListItems
import HandS.Finally
import HandS.Small
import KE.KStateDown
import KE.KExcInit
import HandS.Head0
import HandS.Head1
import HandS.Head2
import HandS.HeadEnd
import HandS.HeadHook1
import HandS.HeadHook2
import HandS.HeadHook3
import HandS.HeadHook4
import HandS.HeadWalk
import HandS.Walk
import KE.GoesMore
import PyProof.Draws
import HandS.Words
import HandS.DeepEq
import HandS.Sort
import KE.KDictList
import HandS.Iter
import HandS.IterVal
import KE.KOwnIter
import HandS.OwnIter
import HandS.NamedTupGet
import PyProof.DictRoadsH
import KE.KOpsOwn
import KE.KExcMake
import HandS.Exc
import HandS.TryOnly
import HandS.Strs
import KE.KRevSl
import PyProof.DictDisplay
import PyProof.DictTable
import KE.KEqNest
import KE.KDictSum
import PyProof.NeKinds
import PyProof.EqAt
import HandS.SetFor
import PyProof.Rows.InDataRows
import HandS.SortRule
import HandS.Conv
import HandS.Dict
import PySem.Challenge.RW_cookcalls_k07_hangings_refused
set_option Elab.async false
set_option linter.all false
set_option maxRecDepth 100000
set_option maxHeartbeats 4000000
namespace K5
open PySem L2
def top (i : Nat) : Stmt := PySem.Challenge.pw_cookcalls_k07_hangings_refused.main.body.getD i (.Pass ⟨0, 0, 0, 0⟩)
abbrev s_is_integer : Stmt := top 5
abbrev N_is_integer : List Str := ["thing"]
abbrev P_is_integer : List Str := ["thing"]
theorem sc_is_integer : FnScope N_is_integer P_is_integer (defScope s_is_integer) := ⟨rfl, rfl, rfl, by decide +kernel, rfl, by decide +kernel, by decide +kernel⟩
abbrev s_is_list : Stmt := top 6
abbrev N_is_list : List Str := ["thing"]
abbrev P_is_list : List Str := ["thing"]
theorem sc_is_list : FnScope N_is_list P_is_list (defScope s_is_list) := ⟨rfl, rfl, rfl, by decide +kernel, rfl, by decide +kernel, by decide +kernel⟩
abbrev s_is_name : Stmt := top 7
abbrev N_is_name : List Str := ["thing", "sign"]
abbrev P_is_name : List Str := ["thing"]
theorem sc_is_name : FnScope N_is_name P_is_name (defScope s_is_name) := ⟨rfl, rfl, rfl, by decide +kernel, rfl, by decide +kernel, by decide +kernel⟩
abbrev s_alike : Stmt := top 9
abbrev N_alike : List Str := ["one", "other", "mine", "yours"]
abbrev P_alike : List Str := ["one", "other"]
theorem sc_alike : FnScope N_alike P_alike (defScope s_alike) := ⟨rfl, rfl, rfl, by decide +kernel, rfl, by decide +kernel, by decide +kernel⟩
abbrev s_copied : Stmt := top 10
abbrev N_copied : List Str := ["thing", "part", "key"]
abbrev P_copied : List Str := ["thing"]
theorem sc_copied : FnScope N_copied P_copied (defScope s_copied) := ⟨rfl, rfl, rfl, by decide +kernel, rfl, by decide +kernel, by decide +kernel⟩
abbrev s_BadRow___init__ : Stmt := inClass (top 14) 0
abbrev N_BadRow___init__ : List Str := ["self", "name"]
abbrev P_BadRow___init__ : List Str := ["self", "name"]
theorem sc_BadRow___init__ : FnScope N_BadRow___init__ P_BadRow___init__ (defScope s_BadRow___init__) := ⟨rfl, rfl, rfl, by decide +kernel, rfl, by decide +kernel, by decide +kernel⟩
abbrev s_Round___init__ : Stmt := inClass (top 15) 0
abbrev N_Round___init__ : List Str := ["self", "names"]
abbrev P_Round___init__ : List Str := ["self", "names"]
theorem sc_Round___init__ : FnScope N_Round___init__ P_Round___init__ (defScope s_Round___init__) := ⟨rfl, rfl, rfl, by decide +kernel, rfl, by decide +kernel, by decide +kernel⟩
abbrev s_Hanging___init__ : Stmt := inClass (top 24) 0
abbrev N_Hanging___init__ : List Str := ["self", "rows", "name"]
abbrev P_Hanging___init__ : List Str := ["self", "rows"]
theorem sc_Hanging___init__ : FnScope N_Hanging___init__ P_Hanging___init__ (defScope s_Hanging___init__) := ⟨rfl, rfl, rfl, by decide +kernel, rfl, by decide +kernel, by decide +kernel⟩
abbrev s_check_rows : Stmt := top 25
abbrev N_check_rows : List Str := ["rows", "name"]
abbrev P_check_rows : List Str := ["rows"]
theorem sc_check_rows : FnScope N_check_rows P_check_rows (defScope s_check_rows) := ⟨rfl, rfl, rfl, by decide +kernel, rfl, by decide +kernel, by decide +kernel⟩
abbrev s_is_hook : Stmt := top 26
abbrev N_is_hook : List Str := ["thing", "rows", "key"]
abbrev P_is_hook : List Str := ["thing", "rows"]
theorem sc_is_hook : FnScope N_is_hook P_is_hook (defScope s_is_hook) := ⟨rfl, rfl, rfl, by decide +kernel, rfl, by decide +kernel, by decide +kernel⟩
abbrev s_check_rounds : Stmt := top 27
abbrev N_check_rounds : List Str := ["hooks", "name", "names"]
abbrev P_check_rounds : List Str := ["hooks"]
theorem sc_check_rounds : FnScope N_check_rounds P_check_rounds (defScope s_check_rounds) := ⟨rfl, rfl, rfl, by decide +kernel, rfl, by decide +kernel, by decide +kernel⟩
abbrev s_round_from : Stmt := top 28
abbrev N_round_from : List Str := ["name", "hooks", "names", "hook"]
abbrev P_round_from : List Str := ["name", "hooks"]
theorem sc_round_from : FnScope N_round_from P_round_from (defScope s_round_from) := ⟨rfl, rfl, rfl, by decide +kernel, rfl, by decide +kernel, by decide +kernel⟩
abbrev s_Book___init__ : Stmt := inClass (top 30) 0
abbrev N_Book___init__ : List Str := ["self", "rows", "name"]
abbrev P_Book___init__ : List Str := ["self", "rows"]
theorem sc_Book___init__ : FnScope N_Book___init__ P_Book___init__ (defScope s_Book___init__) := ⟨rfl, rfl, rfl, by decide +kernel, rfl, by decide +kernel, by decide +kernel⟩
abbrev s_check_entries : Stmt := top 31
abbrev N_check_entries : List Str := ["rows", "name"]
abbrev P_check_entries : List Str := ["rows"]
theorem sc_check_entries : FnScope N_check_entries P_check_entries (defScope s_check_entries) := ⟨rfl, rfl, rfl, by decide +kernel, rfl, by decide +kernel, by decide +kernel⟩
abbrev s_is_entry : Stmt := top 32
abbrev N_is_entry : List Str := ["thing", "rows", "hook", "wait"]
abbrev P_is_entry : List Str := ["thing", "rows"]
theorem sc_is_entry : FnScope N_is_entry P_is_entry (defScope s_is_entry) := ⟨rfl, rfl, rfl, by decide +kernel, rfl, by decide +kernel, by decide +kernel⟩
abbrev s_is_wait : Stmt := top 33
abbrev N_is_wait : List Str := ["thing"]
abbrev P_is_wait : List Str := ["thing"]
theorem sc_is_wait : FnScope N_is_wait P_is_wait (defScope s_is_wait) := ⟨rfl, rfl, rfl, by decide +kernel, rfl, by decide +kernel, by decide +kernel⟩
abbrev s__law_fresh : Stmt := top 39
abbrev N__law_fresh : List Str := ["_law_script"]
abbrev P__law_fresh : List Str := ["_law_script"]
theorem sc__law_fresh : FnScope N__law_fresh P__law_fresh (defScope s__law_fresh) := ⟨rfl, rfl, rfl, by decide +kernel, rfl, by decide +kernel, by decide +kernel⟩
abbrev s__law_take : Stmt := top 40
abbrev N__law_take : List Str := ["_law_state", "_law_many", "_law_cell", "_law_digit", "_law_mixed"]
abbrev P__law_take : List Str := ["_law_state", "_law_many"]
theorem sc__law_take : FnScope N__law_take P__law_take (defScope s__law_take) := ⟨rfl, rfl, rfl, by decide +kernel, rfl, by decide +kernel, by decide +kernel⟩
abbrev s__law_one : Stmt := top 41
abbrev N__law_one : List Str := ["_law_state", "_law_things"]
abbrev P__law_one : List Str := ["_law_state", "_law_things"]
theorem sc__law_one : FnScope N__law_one P__law_one (defScope s__law_one) := ⟨rfl, rfl, rfl, by decide +kernel, rfl, by decide +kernel, by decide +kernel⟩
abbrev s__law_mix : Stmt := top 42
abbrev N__law_mix : List Str := ["_law_state", "_law_things", "_law_left", "_law_found"]
abbrev P__law_mix : List Str := ["_law_state", "_law_things"]
theorem sc__law_mix : FnScope N__law_mix P__law_mix (defScope s__law_mix) := ⟨rfl, rfl, rfl, by decide +kernel, rfl, by decide +kernel, by decide +kernel⟩
abbrev s__law_same : Stmt := top 43
abbrev N__law_same : List Str := ["_law_found", "_law_due_here", "_law_x", "_law_y"]
abbrev P__law_same : List Str := ["_law_found", "_law_due_here"]
theorem sc__law_same : FnScope N__law_same P__law_same (defScope s__law_same) := ⟨rfl, rfl, rfl, by decide +kernel, rfl, by decide +kernel, by decide +kernel⟩
abbrev s__law_names : Stmt := top 44
abbrev N__law_names : List Str := ["_law_state", "_law_many", "_law_some"]
abbrev P__law_names : List Str := ["_law_state", "_law_many"]
theorem sc__law_names : FnScope N__law_names P__law_names (defScope s__law_names) := ⟨rfl, rfl, rfl, by decide +kernel, rfl, by decide +kernel, by decide +kernel⟩
abbrev s__law_rising : Stmt := top 45
abbrev N__law_rising : List Str := ["_law_things", "_law_found", "_law_thing", "_law_x"]
abbrev P__law_rising : List Str := ["_law_things"]
theorem sc__law_rising : FnScope N__law_rising P__law_rising (defScope s__law_rising) := ⟨rfl, rfl, rfl, by decide +kernel, rfl, by decide +kernel, by decide +kernel⟩
abbrev s__law_hung : Stmt := top 46
abbrev N__law_hung : List Str := ["_law_state", "_law_names_here", "_law_row", "_law_found", "_law_k", "_law_name"]
abbrev P__law_hung : List Str := ["_law_state", "_law_names_here"]
theorem sc__law_hung : FnScope N__law_hung P__law_hung (defScope s__law_hung) := ⟨rfl, rfl, rfl, by decide +kernel, rfl, by decide +kernel, by decide +kernel⟩
abbrev s__law_is_name : Stmt := top 47
abbrev N__law_is_name : List Str := ["_law_thing", "_law_letters", "_law_sign"]
abbrev P__law_is_name : List Str := ["_law_thing"]
theorem sc__law_is_name : FnScope N__law_is_name P__law_is_name (defScope s__law_is_name) := ⟨rfl, rfl, rfl, by decide +kernel, rfl, by decide +kernel, by decide +kernel⟩
abbrev s__law_due : Stmt := top 48
abbrev N__law_due : List Str := ["_law_rows", "_law_bad", "_law_name", "_law_here", "_law_round_of", "_law_turn"]
abbrev P__law_due : List Str := ["_law_rows", "_law_bad"]
theorem sc__law_due : FnScope N__law_due P__law_due (defScope s__law_due) := ⟨rfl, rfl, rfl, by decide +kernel, rfl, by decide +kernel, by decide +kernel⟩
abbrev s__law_tried : Stmt := top 49
abbrev N__law_tried : List Str := ["_law_ask", "_law_found", "e"]
abbrev P__law_tried : List Str := ["_law_ask"]
theorem sc__law_tried : FnScope N__law_tried P__law_tried (defScope s__law_tried) := ⟨rfl, rfl, rfl, by decide +kernel, rfl, by decide +kernel, by decide +kernel⟩
abbrev s_law : Stmt := top 50
abbrev N_law : List Str := ["_law_script", "_law_state", "_law_turn", "_law_names_here", "_law_rows", "_law_bad", "_law_waits", "_law_bend", "_law_name", "_law_odd", "_law_key", "_law_pairs", "_law_x"]
abbrev P_law : List Str := ["_law_script"]
theorem sc_law : FnScope N_law P_law (defScope s_law) := ⟨rfl, rfl, rfl, by decide +kernel, rfl, by decide +kernel, by decide +kernel⟩
end K5
set_option Elab.async false
set_option linter.all false
set_option maxRecDepth 100000
set_option maxHeartbeats 0
namespace K5
open PySem PySem.Spec PyProof.Rows L2

theorem mi_of {K : PySem.W.Frag} {x m : Str} (c : (He.Fa.meth x m).ok K = true) : PySem.W.findIn K (.ref (He.ga K x)) m = some (some (.ref (He.ma K (He.ga K x) m))) ∧ PySem.W.isFn K (.ref (He.ma K (He.ga K x) m)) = true := ⟨(He.meth_ok c).at_, (He.meth_ok c).fn⟩
def mroB (K : PySem.W.Frag) (C : Addr) : Bool := match K.lookup C with
  | some ⟨_, _, .cls cd, _⟩ => cd.hasDict && PySem.HandSPX.refsVE (cd.mro.drop 1)
  | _ => false
theorem oex_of {K : PySem.W.Frag} {h : Heap} {C : Addr} (X : K.In h) (q : PySem.W.excInitIn K C He.veBase "ValueError.__new__" = true) (m : mroB K C = true) (sa : PySem.W.findIn K (.ref C) "__setattr__" = some (some (.builtin "object.__setattr__")))
    (sx : PySem.W.subIn K (.ref C) (.type "BaseException") = some true) (ty : PySem.W.typeIn K (.ref C) = some (.type "type")) (ke : PySem.W.keepIn K (.ref C) = true) : OexC K C := by
  obtain ⟨nm, N, qn, bs, bm, hd, sn, sub, ab, col, dd, k0, k1, k2, k3, k5, e, _⟩ := PySem.W.excInit_of X q
  cases z : K.lookup C with
  | none =>
    unfold mroB at m
    rw [z] at m
    cases m
  | some o =>
    have e2 := X _ _ z
    rw [e] at e2
    cases e2
    unfold mroB at m
    rw [z] at m
    have m2 : (hd && PySem.HandSPX.refsVE bm) = true := m
    obtain ⟨m3, m4⟩ := He.ba m2
    subst m3
    exact ⟨⟨nm, qn, N, bs, bm, sn, sub, ab, col, dd, k0, k1, k2, k3, k5, z, m4⟩, sa, sx, ty, ke⟩
def tupA (K : PySem.W.Frag) (a : Addr) (vs : List V) : Bool := match K.lookup a with
  | some ⟨.type c, _, .seq its _, _⟩ => decide (c = "tuple") && (decide (its.size ≤ sizeLine) && He.relAll vs its.toList)
  | _ => false
theorem tupA_ok {K : PySem.W.Frag} {a : Addr} {vs : List V} (h : tupA K a vs = true) (H : Hp) : SqT K H a vs := by
  unfold tupA at h
  split at h
  · rename_i c od its n sl q
    obtain ⟨h1, h2⟩ := He.ba h
    obtain ⟨h3, h4⟩ := He.ba h2
    exact .inr ⟨_, its, n, q, congrArg Value.type (of_decide_eq_true h1), rfl, of_decide_eq_true h3, He.relAll_ok h4⟩
  · cases h
theorem atB {bs : List Bool} (h : bs.all id = true) {i : Nat} {b : Bool} (e : bs[i]? = some b) : b = true := List.all_eq_true.mp h b (List.mem_of_getElem? e)
def dd_is_integer : He.DefD := ⟨("is_integer", none), "is_integer", "is_integer", defArgs s_is_integer, defBody s_is_integer, defScope s_is_integer, [], []⟩
def dd_is_list : He.DefD := ⟨("is_list", none), "is_list", "is_list", defArgs s_is_list, defBody s_is_list, defScope s_is_list, [], []⟩
def dd_is_name : He.DefD := ⟨("is_name", none), "is_name", "is_name", defArgs s_is_name, defBody s_is_name, defScope s_is_name, [], []⟩
def dd_alike : He.DefD := ⟨("alike", none), "alike", "alike", defArgs s_alike, defBody s_alike, defScope s_alike, [], []⟩
def dd_copied : He.DefD := ⟨("copied", none), "copied", "copied", defArgs s_copied, defBody s_copied, defScope s_copied, [], []⟩
def dd_BadRow___init__ : He.DefD := ⟨("BadRow", some "__init__"), "__init__", "BadRow.__init__", defArgs s_BadRow___init__, defBody s_BadRow___init__, defScope s_BadRow___init__, [], []⟩
def dd_Round___init__ : He.DefD := ⟨("Round", some "__init__"), "__init__", "Round.__init__", defArgs s_Round___init__, defBody s_Round___init__, defScope s_Round___init__, [], []⟩
def dd_Hanging___init__ : He.DefD := ⟨("Hanging", some "__init__"), "__init__", "Hanging.__init__", defArgs s_Hanging___init__, defBody s_Hanging___init__, defScope s_Hanging___init__, [], []⟩
def dd_check_rows : He.DefD := ⟨("check_rows", none), "check_rows", "check_rows", defArgs s_check_rows, defBody s_check_rows, defScope s_check_rows, [], []⟩
def dd_is_hook : He.DefD := ⟨("is_hook", none), "is_hook", "is_hook", defArgs s_is_hook, defBody s_is_hook, defScope s_is_hook, [], []⟩
def dd_check_rounds : He.DefD := ⟨("check_rounds", none), "check_rounds", "check_rounds", defArgs s_check_rounds, defBody s_check_rounds, defScope s_check_rounds, [], []⟩
def dd_round_from : He.DefD := ⟨("round_from", none), "round_from", "round_from", defArgs s_round_from, defBody s_round_from, defScope s_round_from, [], []⟩
def dd_Book___init__ : He.DefD := ⟨("Book", some "__init__"), "__init__", "Book.__init__", defArgs s_Book___init__, defBody s_Book___init__, defScope s_Book___init__, [], []⟩
def dd_check_entries : He.DefD := ⟨("check_entries", none), "check_entries", "check_entries", defArgs s_check_entries, defBody s_check_entries, defScope s_check_entries, [], []⟩
def dd_is_entry : He.DefD := ⟨("is_entry", none), "is_entry", "is_entry", defArgs s_is_entry, defBody s_is_entry, defScope s_is_entry, [], []⟩
def dd_is_wait : He.DefD := ⟨("is_wait", none), "is_wait", "is_wait", defArgs s_is_wait, defBody s_is_wait, defScope s_is_wait, [], []⟩
def dd__law_fresh : He.DefD := ⟨("_law_fresh", none), "_law_fresh", "_law_fresh", defArgs s__law_fresh, defBody s__law_fresh, defScope s__law_fresh, [], []⟩
def dd__law_take : He.DefD := ⟨("_law_take", none), "_law_take", "_law_take", defArgs s__law_take, defBody s__law_take, defScope s__law_take, [], []⟩
def dd__law_one : He.DefD := ⟨("_law_one", none), "_law_one", "_law_one", defArgs s__law_one, defBody s__law_one, defScope s__law_one, [], []⟩
def dd__law_mix : He.DefD := ⟨("_law_mix", none), "_law_mix", "_law_mix", defArgs s__law_mix, defBody s__law_mix, defScope s__law_mix, [], []⟩
def dd__law_same : He.DefD := ⟨("_law_same", none), "_law_same", "_law_same", defArgs s__law_same, defBody s__law_same, defScope s__law_same, [], []⟩
def dd__law_names : He.DefD := ⟨("_law_names", none), "_law_names", "_law_names", defArgs s__law_names, defBody s__law_names, defScope s__law_names, [], []⟩
def dd__law_rising : He.DefD := ⟨("_law_rising", none), "_law_rising", "_law_rising", defArgs s__law_rising, defBody s__law_rising, defScope s__law_rising, [], []⟩
def dd__law_hung : He.DefD := ⟨("_law_hung", none), "_law_hung", "_law_hung", defArgs s__law_hung, defBody s__law_hung, defScope s__law_hung, [], []⟩
def dd__law_is_name : He.DefD := ⟨("_law_is_name", none), "_law_is_name", "_law_is_name", defArgs s__law_is_name, defBody s__law_is_name, defScope s__law_is_name, [], []⟩
def dd__law_due : He.DefD := ⟨("_law_due", none), "_law_due", "_law_due", defArgs s__law_due, defBody s__law_due, defScope s__law_due, [], []⟩
def dd__law_tried : He.DefD := ⟨("_law_tried", none), "_law_tried", "_law_tried", defArgs s__law_tried, defBody s__law_tried, defScope s__law_tried, [], []⟩
def dd_law : He.DefD := ⟨("law", none), "law", "law", defArgs s_law, defBody s_law, defScope s_law, [], []⟩
def fn0 : List He.DefD := [dd_is_integer, dd_is_list, dd_is_name, dd_alike, dd_copied, dd_BadRow___init__, dd_Round___init__, dd_Hanging___init__, dd_check_rows, dd_is_hook, dd_check_rounds, dd_round_from, dd_Book___init__, dd_check_entries, dd_is_entry, dd_is_wait, dd__law_fresh, dd__law_take, dd__law_one, dd__law_mix, dd__law_same, dd__law_names, dd__law_rising, dd__law_hung, dd__law_is_name, dd__law_due, dd__law_tried, dd_law]
def fnL : List He.DefD := fn0
def fa0 : List He.Fa := [.glo "is_integer", .glo "is_list", .glo "is_name", .glo "alike", .glo "copied", .glo "check_rows", .glo "is_hook", .glo "check_rounds", .glo "round_from", .glo "check_entries", .glo "is_entry", .glo "is_wait", .glo "_law_fresh", .glo "_law_take", .glo "_law_one", .glo "_law_mix", .glo "_law_same", .glo "_law_names", .glo "_law_rising", .glo "_law_hung", .glo "_law_is_name", .glo "_law_due", .glo "_law_tried", .glo "law", .glo "BadRow", .glo "Round", .glo "Hanging", .glo "Book", .str "CLOCK" "clock", .str "LETTERS" "abcdefghijklmnopqrstuvwxyz"]
def fa1 : List He.Fa := [.int "LONGEST_NAME" 8, .free "len", .free "abs", .free "int", .free "list", .free "tuple", .free "bool", .free "str", .free "dict", .free "isinstance", .free "all", .free "any", .free "zip", .free "enumerate", .free "range", .free "sorted", .cls "Hanging", .cls "Book", .meth "BadRow" "__init__", .meth "Round" "__init__", .mkr "Book", .mkr "Hanging", .noat "Book" "hooks", .noat "Book" "waits", .noat "BadRow" "name", .noat "Hanging" "hooks", .noat "Round" "names"]
def faL : List He.Fa := fa0 ++ fa1
def ex0 (K : PySem.W.Frag) : List Bool := [decide (PySem.W.exmOne K (.ref (He.ga K "BadRow")) (.ref (He.ga K "BadRow")) = some true), decide (PySem.W.exmOne K (.ref (He.ga K "Round")) (.ref (He.ga K "BadRow")) = some false), decide (PySem.W.exmOne K (.ref (He.ga K "Round")) (.ref (He.ga K "Round")) = some true), decide (PySem.W.typeIn K (.ref (He.ma K (He.ga K "BadRow") "__init__")) = some (.type "function")), decide (PySem.W.typeIn K (.ref (He.ma K (He.ga K "Round") "__init__")) = some (.type "function")), PySem.W.excInitIn K (He.ga K "BadRow") He.veBase "ValueError.__new__", mroB K (He.ga K "BadRow"), decide (PySem.W.findIn K (.ref (He.ga K "BadRow")) "__setattr__" = some (some (.builtin "object.__setattr__"))), decide (PySem.W.subIn K (.ref (He.ga K "BadRow")) (.type "BaseException") = some true), decide (PySem.W.typeIn K (.ref (He.ga K "BadRow")) = some (.type "type"))]
def ex1 (K : PySem.W.Frag) : List Bool := [PySem.W.keepIn K (.ref (He.ga K "BadRow")), PySem.W.excInitIn K (He.ga K "Round") He.veBase "ValueError.__new__", mroB K (He.ga K "Round"), decide (PySem.W.findIn K (.ref (He.ga K "Round")) "__setattr__" = some (some (.builtin "object.__setattr__"))), decide (PySem.W.subIn K (.ref (He.ga K "Round")) (.type "BaseException") = some true), decide (PySem.W.typeIn K (.ref (He.ga K "Round")) = some (.type "type")), PySem.W.keepIn K (.ref (He.ga K "Round")), L2.xfB K (He.ga K "BadRow"), L2.xfB K (He.ga K "Round"), decide (He.codeOf K ("law", none) = 494)]
def ex2 (K : PySem.W.Frag) : List Bool := [PySem.W.codeHdIn K 494 492]
def exL (K : PySem.W.Frag) : List Bool := ex0 K ++ ex1 K ++ ex2 K
def exB (K : PySem.W.Frag) : Bool := (exL K).all id
abbrev RR : PySem.W.OpenRow := PySem.W.OpenLaw.row PySem.Challenge.rw_cookcalls_k07_hangings_refused
def asL : List Addr := [3, 28, 35, 40, 52, 57, 67, 106, 125, 248, 259, 264, 271, 278, 366, 377, 384, 391, 426, 433, 440, 447, 452, 459, 464, 471, 476, 483, 490, 495, 27, 34, 39, 51, 56, 66, 105, 124, 247, 258, 263, 270, 277, 365, 376, 383, 390, 425, 432, 439, 446, 451, 458, 463, 470, 475, 482, 489, 494, 103, 122, 203, 290, 102, 121, 202, 289]
abbrev AlY : Type := He.AlD × Bool
def tbL : List (Addr × Addr) := [(494, 492)]
def tabY (g : Addr → Option Obj) : Bool := tbL.all fun p => match g p.2 with | some x => He.emptyTab x | none => false
def outY (K : PySem.W.Frag) : Bool := tbL.all fun p => PySem.W.codeHdIn K p.1 p.2 && (K.lookup p.2).isNone
def obsY (g : Addr → Option Obj) : AlY := (fun K : PySem.W.Frag => (He.obsD faL fnL K, (exB K && outY K) && tabY g)) (He.frG g asL)
structure SayY (h : Heap) (K : PySem.W.Frag) : Prop where
  d : He.SaysD faL fnL K
  e : exB K = true
  o : outY K = true
  t : ∀ p ∈ tbL, h.get? p.2 = some { cls := .none, data := .fields #[] }
theorem sayY {h : Heap} (e : obsY h.get? = (He.valD fnL, true)) : SayY h (He.frG h.get? asL) := by
  have e1 : He.obsD faL fnL (He.frG h.get? asL) = He.valD fnL := congrArg (fun z : AlY => z.1) e
  have e2 : ((exB (He.frG h.get? asL) && outY (He.frG h.get? asL)) && tabY h.get?) = true := congrArg (fun z : AlY => z.2) e
  obtain ⟨a1, a2⟩ := He.ba e2
  obtain ⟨b1, b2⟩ := He.ba a1
  refine ⟨e1, b1, b2, fun p hp => ?_⟩
  have q := List.all_eq_true.mp a2 p hp
  cases z : h.get? p.2 with
  | none => rw [z] at q; cases q
  | some x => rw [z] at q; rw [He.emptyTab_eq q]
def hkX : PySem.W.Hook where
  α := AlY
  obs := fun s => obsY s.heap.get?
  val := fun _ => (He.valD fnL, true)
  says := fun _ h => ∃ K : PySem.W.Frag, K.In h ∧ SayY h K
  of := fun _ _ e => ⟨_, He.frG_in, sayY e⟩
  keeps := fun _ _ _ ⟨K, hK, c⟩ k => ⟨K, PySem.W.Frag.In.keeps hK k, ⟨c.d, c.e, c.o, fun p hp => k _ _ (c.t p hp)⟩⟩
def obX (s : PySem.W.SharedT) : AlY := obsY (HandSHeadRun.getT s)
theorem obX_eq (s : PySem.W.SharedT) : obX s = hkX.obs s.abs := by
  have e : HandSHeadRun.getT s = s.abs.heap.get? := funext (HandSHeadRun.getT_eq s)
  show obsY (HandSHeadRun.getT s) = obsY s.abs.heap.get?
  rw [e]
def nm0 : List Str := ["_wall", "CLOCK", "LETTERS", "LONGEST_NAME", "is_integer", "is_list", "is_name", "is_dish", "alike", "copied", "KitchenError", "NoDish", "BadRow", "Round", "TooEarly", "BadTimes", "UnlikeHangings", "check_dish", "way_up", "Hanging", "check_rows", "is_hook", "check_rounds", "round_from", "Book", "check_entries", "is_entry", "is_wait", "check_waits", "check_times"]
def nm1 : List Str := ["check_hangings", "sum_ahead", "_law_fresh", "_law_take", "_law_one", "_law_mix", "_law_same", "_law_names", "_law_rising", "_law_hung", "_law_is_name", "_law_due", "_law_tried"]
def nmL : List Str := nm0 ++ nm1
theorem runX (w : World) : HandSHeadRun.RunEq RR (PySem.W.view RR.prog [50]) hkX obX 20000 nmL w := by
  intro os
  kernel_rfl
end K5
set_option Elab.async false
set_option linter.all false
set_option maxRecDepth 100000
set_option maxHeartbeats 2000000
namespace EnT
open PySem PySem.Spec PyProof.Rows L2
/-! enumerate over a tuple, as a walk of the hand layer -/
theorem newOver {u : Value} {cell : Obj} {G : Heap → Prop} (B : Begins u cell G) :
    Meets (Builtin.«enumerate.__new__» ⟨[.type "enumerate", u], []⟩) (fun _ R z => G z.heap ∧
      R (.ok (.ret (.ref (z.heap.push cell).objs.size)))
        { z with heap := (z.heap.push cell).push { cls := .type "enumerate", data := .fields #[.none, .bool false, .ref z.heap.objs.size, rawInt 0, .none, .none] } }) :=
  .of_wp fun P w A R z hz => by
    obtain ⟨g0, gs, dr, tk, os⟩ := z; obtain ⟨hG, hR⟩ := hz
    have below := sub_enumerate
    have step : ∀ {A' : Around} {E : Value → Shared → Prop} {Q : Value → Shared → Prop}, Q (.ref g0.objs.size) ⟨g0.push cell, gs, dr, tk, os⟩ → wpAny (model P w) A' (pyIter u) Q E ⟨g0, gs, dr, tk, os⟩ :=
      fun z => B.iter P w _ _ ⟨g0, gs, dr, tk, os⟩ _ hG z
    wp_walk using step
    refine wpAny_stack_any fun _ => wpAny_pure ?_
    split
    · rename_i c _ _ _ _ _
      cases (c == Value.type "enumerate") <;> (wp_walk using step; exact ⟨_, rfl, hR⟩)
    · wp_walk using step
      exact ⟨_, rfl, hR⟩
theorem made {P : Program} {w : World} {A : Around} {E : Value → Shared → Prop} {z : Shared} {u : Value} {cell : Obj} {G : Heap → Prop} {Q : Value → Shared → Prop} (B : Begins u cell G) (hG : G z.heap)
    (k : ∀ g, IsEnum g (z.heap.objs.size + 1) z.heap.objs.size 0 .none → g.get? z.heap.objs.size = some cell → (∀ b o, z.heap.get? b = some o → g.get? b = some o) → Q (.ref (z.heap.objs.size + 1)) { z with heap := g }) :
    wpAny (model P w) A (call (.type "enumerate") [u]) Q E z := by
  refine callType_new F.called_enumerate (by decide) (F.typeCall_enumerate_1 _) (F.newCall_enumerate_1 _) (fun o => F.args_object_init_2 o _) F.entry_enumerate_new (newOver B) ⟨hG, ?_⟩
  have size : (z.heap.push cell).objs.size = z.heap.objs.size + 1 := Heap.size_push ..
  show _ ∧ _
  rw [size]
  generalize hg : (z.heap.push cell).push { cls := .type "enumerate", data := .fields #[.none, .bool false, .ref z.heap.objs.size, rawInt 0, .none, .none] } = g
  have top : IsEnum g (z.heap.objs.size + 1) z.heap.objs.size 0 .none := by
    rw [← hg, ← size]
    exact Heap.get?_push_size _ rfl
  refine ⟨⟨_, top, rfl⟩, k g top ?_ fun b o e => ?_⟩
  · rw [← hg]
    exact Heap.get?_push_of_some _ (Heap.get?_push_size _ B.free)
  · rw [← hg]
    exact Heap.get?_push_of_some _ (Heap.get?_push_of_some _ e)
/-- the tuple at a as it stands at each turn, each item in a new pair -/
def Iet (K : PySem.W.Frag) (a : Addr) : It where
  go i H := ∃ (ys : List V) (y : V), SqT K H a ys ∧ ys[i]? = some y
  yld i H v H' := ∃ T y, v = .ref T ∧ H T = none ∧ H' = upd H T (.tup [.int (i : Nat), y]) ∧ ∀ ys, SqT K H a ys → ys[i]? = some y
  stop i H := ∃ ys : List V, SqT K H a ys ∧ ys.length = i
theorem turns {P : Program} {w : World} {K : PySem.W.Frag} {elts : List Expr} {kk : Nat} {tpos : Pos} (a e j : Addr) :
    Turn P w K (.Tuple elts kk tpos) (Iet K a) [e, j] e (fun i g => (∃ old, IsEnum g e j ((i : Nat) : Int) old) ∧ g.IsTupleIter j a i ∧ e ≠ j) where
  mem := by simp
  obj := fun i g st b hb => by
    obtain ⟨⟨old, he⟩, ⟨o, ho, _, hd⟩, _⟩ := st
    have two : b = e ∨ b = j := by simpa using hb
    rcases two with q | q <;> subst q
    · exact ⟨_, he, fun v z => nomatch z⟩
    · exact ⟨o, ho, fun v z => by rw [hd] at z; cases z⟩
  keep := fun i g g' st k => by
    obtain ⟨⟨old, he⟩, hj, hne⟩ := st
    exact ⟨⟨old, k e (by simp) _ he⟩, hj.at fun o q => k j (by simp) o q, hne⟩
  item := by
    intro X hP hw hK hc i pins s σ H E I hf st hg
    subst hP hw hK
    obtain ⟨⟨old, he⟩, hj, hne⟩ := st
    obtain ⟨ys, y, hq, hy⟩ := hg
    obtain ⟨its, rv, p, _⟩ := I.tuple hq
    obtain ⟨u, hu, ru⟩ := rv.get hy
    have ht : s.heap.IsTuple a its.toArray := p
    have haj : a ≠ j := fun z => by
      obtain ⟨o1, e1, c1, _⟩ := hj
      obtain ⟨o2, e2, c2, _⟩ := ht
      rw [z, e1] at e2
      cases e2
      rw [c1] at c2
      exact absurd (Value.type.inj c2) (by decide)
    have hae : e ≠ a := fun z => by
      obtain ⟨o2, e2, c2, _⟩ := ht
      rw [← z, he] at e2
      cases e2
      exact absurd (Value.type.inj c2) (by decide)
    have lt : i < its.toArray.size := by
      have := rv.length
      have h1 := (List.getElem?_eq_some_iff.mp hy).1
      rw [List.size_toArray]
      omega
    have hel : e < s.heap.objs.size := Heap.lt_size he
    have hjl : j < s.heap.objs.size := by obtain ⟨_, q, _⟩ := hj; exact Heap.lt_size q
    refine wpAny_pyNext_enum_itemD (Draws.tuple (show X.A.in1.handled = none from I.ok.hd hc) j a haj its.toArray) he ⟨hj, ht⟩ lt hne (by simp [hne, hae]) fun x g tk hx ho hs hT hsz hk => ?_
    refine ⟨_, rfl, wpAny_letOwnedTupleGo_enum (s := { s with heap := g, toks := tk + 1 }) ho fun g' he' sb => ?_⟩
    have eu : x = u := by
      have h1 : its.toArray[i]? = some x := hx
      have h2 : its.toArray[i]? = some u := by simpa using hu
      rw [h1] at h2
      exact Option.some.inj h2
    subst eu
    have hT' : g'.get? s.heap.objs.size = some { cls := .type "tuple", data := .seq #[.int i tk, x] } := (sb.2 _ (Nat.ne_of_gt hel)).trans hT
    have fresh : ObjOk X.prog X.w (upd H s.heap.objs.size (.tup [.int (i : Nat), y])) g' s.heap.objs.size (.tup [.int (i : Nat), y]) :=
      ⟨by show 2 ≤ sizeLine; decide, [.int i tk, x], .cons ⟨_, rfl⟩ (.cons ru .nil), ⟨_, hT', rfl, _, rfl⟩⟩
    have I1 : Inv X pins σ (upd H s.heap.objs.size (.tup [.int (i : Nat), y])) { s with heap := g', toks := tk + 1 } :=
      I.turnedNew (ch := [e, j]) (fun b o hb q => (sb.2 b (fun z => hb (by simp [z]))).trans (hk b o (fun z => hb (by simp [z])) (fun z => hb (by simp [z])) q)) hf (Nat.le_refl _) fresh
    refine ⟨.ref s.heap.objs.size, _, I1, rfl, ⟨_, y, rfl, I.hok.fresh (Nat.le_refl _), rfl, fun zs hz => by rw [I.tuple_inj hz hq]; exact hy⟩, ⟨⟨x, ?_⟩, hs.1.at fun o q => (sb.2 j (Ne.symm hne)).trans q, hne⟩, fun b hb => ?_⟩
    · have e1 : ((i + 1 : Nat) : Int) = (i : Int) + 1 := by omega
      rw [e1]; exact he'
    · have old2 : b < s.heap.objs.size := by
        have two : b = e ∨ b = j := by simpa using hb
        rcases two with q | q <;> (rw [q]; assumption)
      rw [upd_ne (Nat.ne_of_lt old2)]
      exact (hf b hb).1
  done := by
    intro X hP hw hK hc i pins s σ H E I hf st hg
    subst hP hw hK
    obtain ⟨⟨old, he⟩, hj, hne⟩ := st
    obtain ⟨ys, hq, hy⟩ := hg
    obtain ⟨its, rv, p, _⟩ := I.tuple hq
    obtain ⟨f0, f1, f2, f3, f4, f5⟩ := hf j (by simp)
    have ht : s.heap.IsTuple a its.toArray := p
    have haj : a ≠ j := fun z => by
      obtain ⟨o1, e1, c1, _⟩ := hj
      obtain ⟨o2, e2, c2, _⟩ := ht
      rw [z, e1] at e2
      cases e2
      rw [c1] at c2
      exact absurd (Value.type.inj c2) (by decide)
    have sz : its.toArray.size = i := by
      have := rv.length
      rw [List.size_toArray]
      omega
    have D := Draws.tuple (prog := X.prog) (w := X.w) (show X.A.in1.handled = none from I.ok.hd hc) j a haj its.toArray
    rw [sz] at D
    exact wpAny_pyNext_enum_endD D he ⟨hj, ht⟩ fun g eb => ⟨rfl, I.turned (t' := s.toks) (fun b o hb q => eb b o hb q) f0 f1 f3 f4 f5⟩
  self := fun A i s Q E st k => by
    obtain ⟨⟨_, he⟩, _⟩ := st
    exact wpAny_pyIter_enum he k
def iEnumT (K : PySem.W.Frag) (ta : TA) : TI := fun σ H R => ta σ H fun vs H1 => ∃ a ys, vs = [V.ref a] ∧ SqT K H1 a ys ∧ R (Iet K a) H1
theorem pi_enumT {X : Cx} {e : Expr} {ta : TA} {p pos tpos : Pos} {elts : List Expr} {kk : Nat} (gl : Gl X "enumerate") (free : X.mg "enumerate" = none) (ha : PA X [e] ta) (hs : starEach [e] X.env = [(false, eval e X.env)] := by rfl) :
    PI X (.Tuple elts kk tpos) (.Call (.Name "enumerate" p) [e] [] pos) (iEnumT X.K ta) := by
  refine ⟨fun pins s σ H R I h => ?_⟩
  refine Call_ (ld_blt I gl free boot_enumerate (PyProof.Rows.callWith_type1 (thn (ha.run pos pins s σ H _ I h) fun us s1 ⟨vs, H1, I1, r1, q1⟩ => ?_) hs rfl))
  obtain ⟨a, ys, ex, hq, q⟩ := q1
  subst ex
  cases r1 with
  | cons r rr =>
    cases rr
    cases r
    obtain ⟨its, rv, p', _⟩ := I1.tuple hq
    have ht : s1.heap.IsTuple a its.toArray := p'
    refine made (begins_tuple a its.toArray) ht fun g he hj hk => wpAny_pyIter_enum he ?_
    have I2 : Inv X pins σ H1 { s1 with heap := g } := I1.kept (t' := s1.toks) hk
    refine ⟨s1.heap.objs.size + 1, [s1.heap.objs.size + 1, s1.heap.objs.size], _, _, H1, rfl, I2, turns a (s1.heap.objs.size + 1) s1.heap.objs.size, ⟨⟨.none, he⟩, ⟨_, hj, rfl, rfl⟩, Nat.succ_ne_self _⟩, fun b hb => ?_, q⟩
    have hle : s1.heap.objs.size ≤ b := by
      have two : b = s1.heap.objs.size + 1 ∨ b = s1.heap.objs.size := by simpa using hb
      rcases two with z | z <;> rw [z]
      · exact Nat.le_add_right _ _
      · exact Nat.le_refl _
    exact I1.fpOk hle (I1.hok.fresh hle)
/-- one of two walks -/
theorem pi_or {X : Cx} {tg e : Expr} {t u : TI} (h : PI X tg e t) (k : PI X tg e u) : PI X tg e (fun σ H R => t σ H R ∨ u σ H R) :=
  ⟨fun pins s σ H R I q => q.elim (h.run pins s σ H R I) (k.run pins s σ H R I)⟩
theorem walk_enumT {K : PySem.W.Frag} {a : Addr} {xs : List V} : Walk (Iet K a) xs.length (fun H => SqT K H a xs) (YPair (fun i => some (.int (i : Nat))) (fun i => xs[i]?)) :=
  ⟨fun _ _ hi q => ⟨xs, _, q, List.getElem?_eq_getElem hi⟩, fun _ q => ⟨xs, q, rfl⟩, fun i H v H' _ q y => by
    obtain ⟨T, x, h1, h2, h3, h4⟩ := y
    exact ⟨T, _, x, h1, h2, h3, rfl, h4 xs q⟩⟩
end EnT
set_option Elab.async false
set_option linter.all false
set_option maxRecDepth 100000
set_option maxHeartbeats 2000000
/-! == and != of an instance whose class has an == of its own: any answer, any other thing -/
namespace Own
open PySem PySem.Spec PyProof.Rows L2
theorem tyIs_keeps {s s' : Shared} {u : Value} {T : String} (k : ∀ b o, s.heap.get? b = some o → s'.heap.get? b = some o) (h : s.TypeIs u T) : s'.TypeIs u T := by
  cases u <;> first | exact h | (obtain ⟨o, h1, h2⟩ := h; exact ⟨o, k _ _ h1, h2⟩)
theorem looks_ty {M : Model} {s : Shared} {u : Value} {T : String} (h : s.TypeIs u T) : PySem.W.Looks M s.heap (typeOf u) (.type T) := fun A Q E s' k q => wpAny_typeOf (tyIs_keeps k h) q
/-- what stands on the other side -/
inductive Oth (K : PySem.W.Frag) (H : Hp) (C : Addr) : V → Prop
  | ty {y : V} {T : String} (h : TyB K H y T) (n : PySem.W.notFirst K C (.type T) = true) : Oth K H C y
  | ins {b D dy : Addr} {gs : List (Str × V)} (h : H b = some (.ins D dy gs)) (n : PySem.W.notFirst K C (.ref D) = true) : Oth K H C (.ref b)
theorem Oth.looks {X : Cx} {pins : List (Addr × Obj)} {σ : L2.St} {H : Hp} {s : Shared} {C : Addr} {y : V} {v : Value} (I : L2.Inv X pins σ H s) (ry : L2.RelV y v) (o : Oth X.K H C y) :
    ∃ tb, PySem.W.Looks (model X.prog X.w) s.heap (typeOf v) tb ∧ PySem.W.notFirst X.K C tb = true := by
  cases o with
  | ty h n => exact ⟨_, looks_ty (h.is I ry), n⟩
  | ins h n =>
    cases (show v = Value.ref _ from ry)
    obtain ⟨mB, J, _⟩ := ins_get I.hok h
    obtain ⟨od, J, _⟩ := J.look
    exact ⟨_, J.type, n⟩
theorem non_declines {prog : Program} {w : World} {A : Around} {E : Value → Shared → Prop} {s : Shared} (x : Addr) : wpAny (model prog w) A (tryCompare .none "__eq__" (.ref x)) (fun r s' => r = none ∧ s' = s) E s :=
  wpAny_tryCompare_declines (show s.TypeIs .none "NoneType" from rfl) F.slot_NoneType_eq_refl (call_gives F.slot_NoneType_eq_refl rfl F.entry_NoneType_eq (F.args_NoneType_eq_2 _ _) (PySem.SeqAt.NoneType___eq___none_ref_0 x) ⟨rfl, rfl, rfl⟩)
theorem dict_declines {prog : Program} {w : World} {A : Around} {E : Value → Shared → Prop} {s : Shared} {K : PySem.W.Frag} {d x C : Addr} {ox : Obj} {od : Option Obj} (hT : s.TypeIs (.ref d) "dict") (X : K.In s.heap) (I : PySem.W.InstAt s.heap x ox C od) (hsub : PySem.W.subIn K (.ref C) (.type "dict") = some false) :
    wpAny (model prog w) A (tryCompare (.ref d) "__eq__" (.ref x)) (fun r s' => r = none ∧ s' = s) E s := by
  refine wpAny_tryCompare_declines hT PySem.F.slot_dict_eq_refl (wpAny_call (codeAny_call_builtin PySem.F.slot_dict_eq_refl.plain PySem.F.entry_dict_eq (PySem.F.slot_dict_eq_refl.check _ _ _ _ _ _ _ _ hT (PySem.F.args_dict_eq_2 _ _) ?_)))
  show wpAny _ _ (Builtin.Dict.dictSlotArgs "__eq__" ⟨[.ref d, .ref x], []⟩ >>= _) _ _ s
  refine wpAny_bind ?_
  unfold Builtin.Dict.dictSlotArgs
  refine wpAny_bind (wpAny_notOrdered_dict hT ?_)
  show wpAny _ _ (pure (Value.ref d, Value.ref x)) _ _ s
  refine wpAny_pure ?_
  unfold isInstance
  refine wpAny_bind (wpAny_bind (I.type.here ((PySem.W.looks_subIn X hsub).here ?_)))
  simp only [Bool.not_false, if_true]
  refine wpAny_bind (wpAny_rule (wpAny_bind (wpAny_pure (wpAny_pure ?_))))
  first
    | exact ⟨trivial, rfl, rfl⟩
    | exact ⟨trivial, trivial, rfl⟩
    | exact ⟨trivial, rfl⟩
    | simp
section
variable {X : Cx} {CX : CXT} {C f : Addr} {fd : FuncData} {ps : List Str} {n : Nat} {sp : Sp} {E : XK}
theorem own_call (F : FnOk X.prog X.w X.K X.mg X.base CX n f fd ps sp) (hb : L2.Binds X.K fd ps []) (hx : Passes CX X E) {A : Around} (hr : Room n A) (hfr : A.frames = X.A.frames)
    {pins : List (Addr × Obj)} {s : Shared} {σ : L2.St} {H : Hp} {x y : V} {u v : Value} {R : V → Hp → Prop} (I : L2.Inv X pins σ H s) (rx : L2.RelV x u) (ry : L2.RelV y v) (hsp : sp [x, y] H R E) :
    wpAny (model X.prog X.w) A (call (.ref f) [u, v]) (fun w s' => ∃ z H', L2.RelV z w ∧ L2.Inv X pins σ H' s' ∧ R z H') X.xe s := by
  have e0 : Env0 X.prog X.w X.K X.mg X.base A X.stack s H := by
    have e := I.env0
    exact ⟨by rw [hfr]; exact e.frames, e.mod, e.bs, e.bsz, e.funs, e.frf, e.hok, e.bare⟩
  have hl := F.len _ _ _ _ hsp
  have r2 : L2.Vals [x, y] [u, v] := .cons rx (.cons ry .nil)
  refine wpAny_call (codeAny_mono (F.run A X.stack s H ⟨[u, v], []⟩ [u, v] [x, y] R E hr e0 (by
    have := hb s [u, v] I.kIn (by simpa using hl)
    simpa using this) r2 hsp) fun r s' hq => ?_)
  cases r with
  | error e => exact hx pins σ H s e s' I hq
  | ok fl =>
    cases fl with
    | ret w =>
      obtain ⟨z, H', I', rz, q⟩ := I.after hq
      exact ⟨z, H', rz, I', q⟩
    | next => exact False.elim hq
    | brk => exact False.elim hq
    | cont => exact False.elim hq
/-- the reading of x == y: the own def tells a truth -/
def rOwn (K : PySem.W.Frag) (C : Addr) (sp : Sp) (E : XK) (neg : Bool) : R2 := fun x y H Q => ∃ a dx fs, x = .ref a ∧ H a = some (.ins C dx fs) ∧ Oth K H C y ∧ sp [x, y] H (fun v H' => ∃ b : Bool, v = .bl b ∧ Q (.bl (if neg then !b else b)) H') E
theorem op_eqOwn (F : FnOk X.prog X.w X.K X.mg X.base CX n f fd ps sp) (hs : PySem.W.findIn X.K (.ref C) "__eq__" = some (some (.ref f))) (hf : PySem.W.isFn X.K (.ref f) = true) (hb : L2.Binds X.K fd ps []) (hx : Passes CX X E) (hr : Room n X.A) :
    OpR X (compareOp .Eq) (rOwn X.K C sp E false) := by
  intro pins s σ H x y u v Q I rx ry ⟨a, dx, fs, ex, ha, ho, hsp⟩
  subst ex
  cases (show u = Value.ref a from rx)
  obtain ⟨mA, J, _⟩ := ins_get I.hok ha
  obtain ⟨od, J, _⟩ := J.look
  obtain ⟨m, hF⟩ := I.fr
  obtain ⟨tb, L, hn⟩ := ho.looks I ry
  show wpAny (model X.prog X.w) X.A (richCompare .Eq (.ref a) v) (EP X pins σ Q) X.xe s
  refine PySem.W.cmp_K (op := .Eq) (tb := tb) hr.units0 hF I.ok.mod.kin J L hn hs hf ?_
  refine wpAny_mono (own_call F hb hx hr rfl I (x := .ref a) rfl ry hsp) (fun w s' h => ?_) fun _ _ h => h
  obtain ⟨z, H', rz, I', b, ez, q⟩ := h
  subst ez
  cases (show w = Value.bool b from rz)
  exact ⟨.bl b, H', I', rfl, q⟩
set_option maxHeartbeats 200000 in
theorem entry_ne {prog : Program} {w : World} {A : Around} {E : Value → Shared → Prop} {s : Shared} {K : PySem.W.Frag} {x C f : Addr} {ox : Obj} {od : Option Obj} {b : Value} {Q : Fin → Shared → Prop} (hu : A.units < cLine) (X : K.In s.heap) (I : PySem.W.InstAt s.heap x ox C od)
    (hs : PySem.W.findIn K (.ref C) "__eq__" = some (some (.ref f))) (hf : PySem.W.isFn K (.ref f) = true) (h : wpAny (model prog w) A (call (.ref f) [.ref x, b]) (fun r s' => ∃ c, r = .bool c ∧ Q (.done (.ret (.bool (!c)))) s') E s) :
    wpAny (model prog w) A (Builtin.«object.__ne__» ⟨[.ref x, b], []⟩) Q E s := by
  unfold Builtin.«object.__ne__»
  refine wpAny_bind (wpAny_pure ?_)
  refine wpAny_bind (wpAny_cRoomFor hu ?_)
  refine wpAny_bind (PySem.W.ifBound_K X I hs hf (wpAny_mono h (fun r s' hr => ?_) fun _ _ e => e))
  obtain ⟨c, rfl, q⟩ := hr
  refine wpAny_bind (wpAny_truthy_bool ?_)
  exact wpAny_pure q
theorem ifBound_objNe {M : Model} {A : Around} {E : Value → Shared → Prop} {s : Shared} {K : PySem.W.Frag} {x C : Addr} {ox : Obj} {od : Option Obj} {args : List Value} {Q : Option Value → Shared → Prop} (X : K.In s.heap) (I : PySem.W.InstAt s.heap x ox C od) (hs : PySem.W.findIn K (.ref C) "__ne__" = some (some (.builtin "object.__ne__")))
    (h : wpAny M A (call (.builtin "object.__ne__") (.ref x :: args)) (fun v => Q (some v)) E s) : wpAny M A (callSpecialIfBound? (.ref x) "__ne__" args) Q E s := by
  simp only [callSpecialIfBound?, bindSpecialIfBound?]
  refine wpAny_holding (wpAny_bind (wpAny_bind (wpAny_bind (I.type.here ((PySem.W.looks_findIn X hs).here ?_)))))
  refine wpAny_bind (wpAny_askSetting (wpAny_ite ?_))
  have fin : wpAny M A (call (.builtin "object.__ne__") ([.ref x] ++ args) >>= fun v => pure (some v)) Q E s := wpAny_bind (wpAny_mono h (fun v s' h' => wpAny_pure h') fun _ _ h' => h')
  split
  · exact wpAny_bind (wpAny_of_eq (F.cmp_object.ne.bind _) (wpAny_pure (by exact fin)))
  · exact wpAny_tryCatch (wpAny_bind (wpAny_of_eq (F.cmp_object.ne.bind _) (wpAny_pure (by exact fin))))
theorem rc_ne {prog : Program} {w : World} {A : Around} {E : Value → Shared → Prop} {s : Shared} {K : PySem.W.Frag} {x C f : Addr} {ox : Obj} {od : Option Obj} {b tb : Value} {Q : Value → Shared → Prop} (hu : A.units + 1 < cLine) (X : K.In s.heap) (I : PySem.W.InstAt s.heap x ox C od)
    (hb : PySem.W.Looks (model prog w) s.heap (typeOf b) tb) (hn : PySem.W.notFirst K C tb = true) (hm : PySem.W.mroIn K C (.type "object") = some true) (hne : PySem.W.findIn K (.ref C) "__ne__" = some (some (.builtin "object.__ne__")))
    (hs : PySem.W.findIn K (.ref C) "__eq__" = some (some (.ref f))) (hf : PySem.W.isFn K (.ref f) = true) (h : wpAny (model prog w) A.in1 (call (.ref f) [.ref x, b]) (fun r s' => ∃ c, r = .bool c ∧ Q (.bool (!c)) s') E s) :
    wpAny (model prog w) A (richCompare .NotEq (.ref x) b) Q E s := by
  have one : wpAny (model prog w) A (tryCompare (.ref x) "__ne__" b) (fun r s' => ∃ v, r = some v ∧ Q v s') E s := by
    unfold tryCompare
    refine wpAny_bind (ifBound_objNe X I hne (wpAny_call (codeAny_call_builtin F.cmp_object.ne.plain F.cmpEntry_ne (PySem.W.check_slot F.cmpKind_ne F.cmpSplit_ne (I.type.andThen (PySem.W.looks_mroIn X hm)) (F.cmpArgs_ne _ _)
      (entry_ne (by show A.units + 1 < cLine; exact hu) X I hs hf (wpAny_mono h (fun r s' hr => ?_) fun _ _ e => e))))))
    obtain ⟨c, rfl, q⟩ := hr
    exact ⟨c, rfl, wpAny_pure ⟨_, rfl, q⟩⟩
  unfold richCompare
  simp only [oneThing_ref]
  refine wpAny_holding (wpAny_bind (wpAny_cRoomFor (by omega) ?_))
  refine wpAny_bind (I.type.here (wpAny_bind (hb.here ?_)))
  split
  · rename_i q
    have e : PySem.W.subIn K tb (.ref C) = some false := by
      rcases Bool.or_eq_true_iff.mp hn with e | e
      · rw [beq_iff_eq.mp e] at q; simp at q
      · exact beq_iff_eq.mp e
    refine wpAny_bind ((PySem.W.looks_subIn X e).here ?_)
    simp only [Bool.false_eq_true, if_false]
    refine wpAny_bind (wpAny_mono one (fun r s' z => ?_) fun _ _ e => e)
    obtain ⟨v, rfl, hq⟩ := z
    exact wpAny_pure hq
  · refine wpAny_bind (wpAny_pure ?_)
    simp only [Bool.false_eq_true, if_false]
    refine wpAny_bind (wpAny_mono one (fun r s' z => ?_) fun _ _ e => e)
    obtain ⟨v, rfl, hq⟩ := z
    exact wpAny_pure hq
theorem op_neOwn (F : FnOk X.prog X.w X.K X.mg X.base CX n f fd ps sp) (hne : PySem.W.findIn X.K (.ref C) "__ne__" = some (some (.builtin "object.__ne__"))) (hm : PySem.W.mroIn X.K C (.type "object") = some true)
    (hs : PySem.W.findIn X.K (.ref C) "__eq__" = some (some (.ref f))) (hf : PySem.W.isFn X.K (.ref f) = true) (hb : L2.Binds X.K fd ps []) (hx : Passes CX X E) (hr : Room (n + 1) X.A) :
    OpR X (compareOp .NotEq) (rOwn X.K C sp E true) := by
  intro pins s σ H x y u v Q I rx ry ⟨a, dx, fs, ex, ha, ho, hsp⟩
  subst ex
  cases (show u = Value.ref a from rx)
  obtain ⟨mA, J, _⟩ := ins_get I.hok ha
  obtain ⟨od, J, _⟩ := J.look
  obtain ⟨tb, L, hn⟩ := ho.looks I ry
  show wpAny (model X.prog X.w) X.A (richCompare .NotEq (.ref a) v) (EP X pins σ Q) X.xe s
  have un := hr.un
  refine rc_ne (by omega) I.kIn J L hn hm hne hs hf ?_
  refine wpAny_mono (own_call F hb hx hr.in1 rfl I (x := .ref a) rfl ry hsp) (fun w s' h => ?_) fun _ _ h => h
  obtain ⟨z, H', rz, I', b, ez, q⟩ := h
  subst ez
  cases (show w = Value.bool b from rz)
  exact ⟨b, rfl, .bl (!b), H', I', rfl, q⟩
/-- what is built in on the left declines, then the own == is asked -/
theorem rc_left {prog : Program} {w : World} {A : Around} {E : Value → Shared → Prop} {s : Shared} {K : PySem.W.Frag} {x C f : Addr} {ox : Obj} {od : Option Obj} {a : Value} {T : String} {Q : Value → Shared → Prop} (hu : A.units < cLine) (X : K.In s.heap) (I : PySem.W.InstAt s.heap x ox C od)
    (hT : s.TypeIs a T) (hsub : PySem.W.subIn K (.ref C) (.type T) = some false) (ho : oneThing? .Eq a (.ref x) = none)
    (one : wpAny (model prog w) A (tryCompare a "__eq__" (.ref x)) (fun r s' => r = none ∧ s' = s) E s)
    (hs : PySem.W.findIn K (.ref C) "__eq__" = some (some (.ref f))) (hf : PySem.W.isFn K (.ref f) = true) (h : wpAny (model prog w) A (call (.ref f) [.ref x, a]) (fun r s' => ∃ c, r = .bool c ∧ Q (.bool c) s') E s) :
    wpAny (model prog w) A (richCompare .Eq a (.ref x)) Q E s := by
  have two : wpAny (model prog w) A (tryCompare (.ref x) "__eq__" a) (fun r s' => ∃ v, r = some v ∧ Q v s') E s := by
    unfold tryCompare
    refine wpAny_bind (PySem.W.ifBound_K X I hs hf (wpAny_mono h (fun v s' hv => ?_) fun _ _ e => e))
    obtain ⟨c, rfl, q⟩ := hv
    exact wpAny_pure ⟨_, rfl, q⟩
  simp only [richCompare, cmpInfo_Eq, ho]
  refine wpAny_holding (wpAny_bind (wpAny_cRoomFor hu ?_))
  refine wpAny_bind (wpAny_typeOf hT ?_)
  refine wpAny_bind (I.type.here ?_)
  split
  · refine wpAny_bind ((PySem.W.looks_subIn X hsub).here ?_)
    simp only [Bool.false_eq_true, if_false, Bool.not_false, if_true]
    refine wpAny_bind (m := tryCompare a _ (.ref x)) (wpAny_mono one (fun r s1 z => ?_) fun _ _ e => e)
    obtain ⟨z1, z2⟩ := z
    subst z1
    subst z2
    refine wpAny_bind (m := tryCompare (.ref x) _ a) (wpAny_mono two (fun r s2 z => ?_) fun _ _ e => e)
    obtain ⟨v, rfl, q⟩ := z
    exact wpAny_pure q
  · rename_i q
    exact absurd (by simp) q
/-- None == x -/
def rNonL (C : Addr) (sp : Sp) (E : XK) : R2 := fun x y H Q => x = .non ∧ ∃ a dx fs, y = .ref a ∧ H a = some (.ins C dx fs) ∧ sp [y, .non] H (fun v H' => ∃ b : Bool, v = .bl b ∧ Q (.bl b) H') E
theorem op_eqNonL (F : FnOk X.prog X.w X.K X.mg X.base CX n f fd ps sp) (hsub : PySem.W.subIn X.K (.ref C) (.type "NoneType") = some false)
    (hs : PySem.W.findIn X.K (.ref C) "__eq__" = some (some (.ref f))) (hf : PySem.W.isFn X.K (.ref f) = true) (hb : L2.Binds X.K fd ps []) (hx : Passes CX X E) (hr : Room n X.A) :
    OpR X (compareOp .Eq) (rNonL C sp E) := by
  intro pins s σ H x y u v Q I rx ry ⟨ex, a, dx, fs, ey, ha, hsp⟩
  subst ex
  subst ey
  cases (show u = Value.none from rx)
  cases (show v = Value.ref a from ry)
  obtain ⟨mA, J, _⟩ := ins_get I.hok ha
  obtain ⟨od, J, _⟩ := J.look
  show wpAny (model X.prog X.w) X.A (richCompare .Eq .none (.ref a)) (EP X pins σ Q) X.xe s
  refine rc_left hr.units0 I.kIn J (show s.TypeIs .none "NoneType" from rfl) hsub rfl (non_declines a) hs hf ?_
  refine wpAny_mono (own_call F hb hx hr rfl I (x := .ref a) (y := .non) rfl rfl hsp) (fun w s' h => ?_) fun _ _ h => h
  obtain ⟨z, H', rz, I', b, ez, q⟩ := h
  subst ez
  cases (show w = Value.bool b from rz)
  exact ⟨b, rfl, .bl b, H', I', rfl, q⟩
/-- {..} == x -/
def rDctL (C : Addr) (sp : Sp) (E : XK) : R2 := fun x y H Q => ∃ d kvs a dx fs, x = .ref d ∧ H d = some (.dK kvs) ∧ y = .ref a ∧ H a = some (.ins C dx fs) ∧ sp [y, x] H (fun v H' => ∃ b : Bool, v = .bl b ∧ Q (.bl b) H') E
theorem op_eqDctL (F : FnOk X.prog X.w X.K X.mg X.base CX n f fd ps sp) (hsub : PySem.W.subIn X.K (.ref C) (.type "dict") = some false)
    (hs : PySem.W.findIn X.K (.ref C) "__eq__" = some (some (.ref f))) (hf : PySem.W.isFn X.K (.ref f) = true) (hb : L2.Binds X.K fd ps []) (hx : Passes CX X E) (hr : Room n X.A) :
    OpR X (compareOp .Eq) (rDctL C sp E) := by
  intro pins s σ H x y u v Q I rx ry ⟨d, kvs, a, dx, fs, ex, hd, ey, ha, hsp⟩
  subst ex
  subst ey
  cases (show u = Value.ref d from rx)
  cases (show v = Value.ref a from ry)
  obtain ⟨mA, J, _⟩ := ins_get I.hok ha
  obtain ⟨od, J, _⟩ := J.look
  show wpAny (model X.prog X.w) X.A (richCompare .Eq (.ref d) (.ref a)) (EP X pins σ Q) X.xe s
  have hT : s.TypeIs (.ref d) "dict" := TyB.is I (x := .ref d) rfl (.dK hd)
  refine rc_left hr.units0 I.kIn J hT hsub rfl (dict_declines hT I.kIn J hsub) hs hf ?_
  refine wpAny_mono (own_call F hb hx hr rfl I (x := .ref a) (y := .ref d) rfl rfl hsp) (fun w s' h => ?_) fun _ _ h => h
  obtain ⟨z, H', rz, I', b, ez, q⟩ := h
  subst ez
  cases (show w = Value.bool b from rz)
  exact ⟨b, rfl, .bl b, H', I', rfl, q⟩
end
/-! ### dicts of flat things: == of any answer -/
def eqKv (ks ls : List (Key × V)) : Bool := ks.all fun p => match valV ls p.1 with | some u => eqV p.2 u | none => false
theorem hits_flat {P : Program} {w : World} {A : Around} {s : Shared} {ls : List (Key × V)} {vb : List (Key × Value)} (rb : KV ls vb) (fl : ∀ k u, valV ls k = some u → flatV u = true) {ks : List (Key × V)} {va : List (Key × Value)}
    (ra : KV ks va) : (∀ p ∈ ks, flatV p.2 = true) → PySem.W.KeqHitsP P w A s vb va (eqKv ks ls) := by
  unfold KV at ra
  induction ra with
  | nil => intro _; exact .nil
  | @cons p q ps qs h t k =>
    intro hp
    obtain ⟨h1, h2⟩ := h
    have rr : RelO (valV ls p.1) (valueAt vb p.1) := rb.val p.1
    obtain ⟨key, v⟩ := q
    have h1' : p.1 = key := h1
    have rest := k fun p' hm => hp p' (List.mem_cons_of_mem _ hm)
    cases e : valV ls p.1 with
    | none =>
      rw [e] at rr
      have hn : valueAt vb key = none := by
        rw [← h1']
        cases hv : valueAt vb p.1 with
        | none => rfl
        | some z => rw [hv] at rr; exact rr.elim
      have hb : eqKv (p :: ps) ls = false := by unfold eqKv; rw [List.all_cons, e]; rfl
      rw [hb]
      exact .miss hn
    | some u =>
      rw [e] at rr
      obtain ⟨y, hy, ry⟩ := rr.some_of
      rw [h1'] at hy
      have hb : eqKv (p :: ps) ls = (eqV p.2 u && eqKv ps ls) := by unfold eqKv; rw [List.all_cons, e]
      rw [hb]
      exact .hit hy (eqAt_V h2 ry (hp p List.mem_cons_self) (fl _ _ e)).eqP rest
/-- the reading of a == b -/
def rEqDF : R2 := fun x y H Q => ∃ a b ks ls, x = .ref a ∧ y = .ref b ∧ H a = some (.dK ks) ∧ H b = some (.dK ls) ∧ (∀ p ∈ ks, flatV p.2 = true) ∧ (∀ k u, valV ls k = some u → flatV u = true) ∧ Q (.bl (ks.length == ls.length && eqKv ks ls)) H
theorem op_eqDF {X : Cx} (hu : X.A.units + 64 < cLine) : OpR X (compareOp .Eq) rEqDF := by
  intro pins s σ H x y v u Q I rx ry ⟨a, b, ks, ls, ex, ey, ha, hb, f1, f2, q⟩
  subst ex
  subst ey
  cases (show v = Value.ref a from rx)
  cases (show u = Value.ref b from ry)
  obtain ⟨_, ya, va, ra, da⟩ := (show ObjOk X.prog X.w H s.heap a (.dK ks) from I.hok a _ ha)
  obtain ⟨_, yb, vb, rb, db⟩ := (show ObjOk X.prog X.w H s.heap b (.dK ls) from I.hok b _ hb)
  have la : ks.length = va.length := by unfold KV at ra; exact ra.length
  have lb : ls.length = vb.length := by unfold KV at rb; exact rb.length
  refine PySem.W.rcP_dicts (knd := mixKind X.prog X.w) (r := eqKv ks ls) ya yb da db (by omega) (fun _ => hits_flat rb f2 ra f1) _ _ ?_
  rw [← la, ← lb]
  exact ⟨.bl _, H, I, rfl, q⟩
/-! ### list(d.values()) -/
theorem paired_ix {α β : Type} {R : α → β → Prop} : ∀ {xs : List α} {ys : List β}, xs.length = ys.length → (∀ (i : Nat) (y : β), ys[i]? = some y → ∃ x, xs[i]? = some x ∧ R x y) → Paired R xs ys
  | [], [], _, _ => .nil
  | x :: xs, y :: ys, h, k => by
    obtain ⟨x', e, r⟩ := k 0 y rfl
    cases e
    exact .cons r (paired_ix (Nat.succ.inj h) fun i z hz => k (i + 1) z hz)
  | [], _ :: _, h, _ => nomatch h
  | _ :: _, [], h, _ => nomatch h
def tListVals (td : TE) : TE := fun σ H Q => td σ H fun x H1 => ∃ a kvs, x = V.ref a ∧ H1 a = some (.dK kvs) ∧ ∀ p, H1 p = none → Q (.ref p) (upd H1 p (.lst (kvs.map (·.2))))
theorem pe_listVals {X : Cx} {o : Expr} {td : TE} {p pos apos mpos : Pos} (hc : X.calm = true) (hg : Gl X "list") (hm : X.mg "list" = none) (hd : PE X o td) (hbase : attributeBase o "values" X.env (eval o X.env) = eval o X.env := by rfl) (hline : (apos.endLine == mpos.line) = true := by rfl)
    (hse : starEach [Expr.Call (.Attribute o "values" apos) [] [] mpos] X.env = [(false, eval (Expr.Call (.Attribute o "values" apos) [] [] mpos) X.env)] := by rfl) :
    PE X (.Call (.Name "list" p) [.Call (.Attribute o "values" apos) [] [] mpos] [] pos) (tListVals td) := by
  refine ⟨fun pins s σ H Q I h => ?_⟩
  refine wpAny_Call_Name_kw (ld_blt I hg hm (u := .type "list") (by first | rfl | decide +kernel) ?_ (by first | decide +kernel | decide) (by first | decide +kernel | decide))
  rw [hse]
  refine PySem.callWith_type1 (wpAny_Call_method0_late hbase hline (thn (hd.run pins s σ H _ I h) fun v s1 ⟨x, H1, I1, r1, a, kvs, ex, ha, q⟩ => ?_))
  subst ex
  obtain rfl : v = Value.ref a := r1
  obtain ⟨hz, hsys, vs, rel, dof⟩ := dk_of I1.hok ha
  obtain ⟨ep, dat⟩ := dof.dictAt
  have dat' := dat
  obtain ⟨ob, es, ho, ex, hdat, hko, hpr, hnd⟩ := dat'
  refine ⟨"dict", "dict.values", F.plainAttrs_dict, F.slot_dict_values, F.type_dict_values, ⟨ob, ho, ex.1⟩, fun b e => ?_, Calls.callWith_builtin rfl (PySem.evalArgs_none ?_)⟩
  · cases e
    exact ⟨ob, ho, ex.2.1⟩
  refine call_meetsIn F.slot_dict_values ⟨ob, ho, ex.1⟩ F.entry_dict_values (F.args_dict_values_1 _) (meets_dict_values (mixKind X.prog X.w) a hsys) ⟨⟨vs, dof⟩, ?_⟩
  have k1 : ∀ b u, s1.heap.get? b = some u → (s1.heap.push { cls := .type "dict_values", data := .fields #[.ref a] }).get? b = some u := fun b u e => Heap.get?_push_of_some _ e
  have dat1 : (s1.heap.push { cls := .type "dict_values", data := .fields #[.ref a] }).DictAt (mixKind X.prog X.w) a vs ep := dat.keep k1
  have I2 : L2.Inv X pins σ H1 { s1 with heap := s1.heap.push { cls := .type "dict_values", data := .fields #[.ref a] } } := I1.kept (t' := s1.toks) k1
  have hlv : kvs.length = vs.length := by unfold KV at rel; exact rel.length
  refine PySem.W.kdl_call (s := { s1 with heap := s1.heap.push { cls := .type "dict_values", data := .fields #[.ref a] } }) (PySem.W.kdl_values (knd := mixKind X.prog X.w) (kvs := vs) (ep := ep) (r := s1.heap.objs.size) (d := a)) (I.ok.hd hc) ⟨⟨_, Heap.get?_push_size _ rfl, rfl, rfl⟩, dat1⟩ (by rw [← hlv]; exact hz) fun h' tk acc c' hk hD hacc => ?_
  have hv : L2.Vals (kvs.map (·.2)) acc.toList := by
    refine paired_ix (by rw [List.length_map, Array.length_toList]; exact hlv.trans hacc.1.symm) fun i v e => ?_
    obtain ⟨k, hk2⟩ := hacc.2 i v (by rw [← Array.getElem?_toList]; exact e)
    obtain ⟨x, h1, h2⟩ := KV.at' rel hk2
    exact ⟨x, by rw [List.getElem?_map, h1] <;> rfl, h2⟩
  refine ⟨.ref _, upd H1 _ (.lst (kvs.map (·.2))), I2.laid (t' := tk) hk (Nat.le_refl _)
    (show ObjOk X.prog X.w _ _ _ (.lst (kvs.map (·.2))) from ⟨by rw [List.length_map]; exact hz, acc.toList, c', hv, by rw [Array.toArray_toList]; exact hD⟩), rfl, q _ (I2.hok.fresh (Nat.le_refl _))⟩
end Own
set_option Elab.async false
set_option linter.all false
set_option maxRecDepth 100000
set_option maxHeartbeats 2000000
/-! x in d.values(); iter(d); what is walked of an instance whose own __iter__ returns iter(d) -/
namespace Own
open PySem PySem.Spec PyProof.Rows L2
/-! ### d.values() as a value, and x in it -/
def VvO (d v : Addr) : HO := .ext fun h => h.IsValuesView v d
theorem mt_values {X : Cx} : MtR X "dict.values" (fun x vs H Q => ∃ (d : Addr) (kvs : List (Key × V)), x = .ref d ∧ vs = [] ∧ H d = some (.dK kvs) ∧ ∀ v, H v = none → Q (.ref v) (upd H v (VvO d v))) := by
  intro pins s σ H x xs v us Q I rx rv ⟨d, kvs, ex, e0, hd, q⟩
  subst ex
  subst e0
  cases rv
  cases (show v = Value.ref d from rx)
  obtain ⟨hz, hsys, vs, rel, dof⟩ := dk_of I.hok hd
  refine call_meetsIn F.slot_dict_values dof.typeIs F.entry_dict_values (F.args_dict_values_1 _) (meets_dict_values (mixKind X.prog X.w) d hsys) ⟨⟨vs, dof⟩, ?_⟩
  have hg : (s.heap.push { cls := .type "dict_values", data := .fields #[.ref d] }).get? s.heap.objs.size = some { cls := .type "dict_values", data := .fields #[.ref d] } := Heap.get?_push_size _ rfl
  refine ⟨.ref s.heap.objs.size, upd H _ (VvO d _), I.laid (t' := s.toks) (fun b u e => Heap.get?_push_of_some _ e) (Nat.le_refl _) ?_, rfl, q _ (I.hok.fresh (Nat.le_refl _))⟩
  exact ⟨⟨_, hg, rfl, rfl⟩, ⟨_, hg⟩, fun h1 h2 ⟨o, e, r⟩ k => ⟨o, k _ e, r⟩⟩
theorem entry_citer : entryFor table "proto.contains_iter" = some Builtin.«proto.contains_iter» := entryFor_of_fast (by kernel_rfl)
theorem plain_citer : plainId "proto.contains_iter" = true := by decide +kernel
theorem vals_noc : typeLookup (.type "dict_values") "__contains__" = pure none := by rw [typeLookup_type, builtinLookup_eq_fast]; kernel_rfl
section
variable {prog : Program} {w : World} {A : Around} {I : Addr} {fp wr : List Addr} {vs : List Value} {St : Nat → Heap → Prop}
theorem citer_loop {R : Result → Shared → Prop} (W : Walks prog w A.in1 I fp wr vs.length (fun i v => vs[i]? = some v) St) (x : Value) (r : Value → Bool) (heq : ∀ v ∈ vs, ∀ s, SeqAt.EqAt A.in1 s v x (r v)) :
    ∀ (k i : Nat) (s : Shared), vs.length - i = k → i ≤ vs.length → St i s.heap →
    (∀ h' tk, (∀ b o, b ∉ wr → s.heap.get? b = some o → h'.get? b = some o) → R (.ok (.ret (.bool ((vs.drop i).any r)))) { s with heap := h', toks := tk }) →
    codeAny (model prog w) A (.builtin "proto.contains_iter" ⟨[.ref I, x], []⟩) R s := by
  intro k
  induction k with
  | zero =>
    intro i s hk hi hst hR
    have e : i = vs.length := by omega
    subst e
    refine codeAny_builtin entry_citer ?_
    rw [Around.under_plainId plain_citer _]
    show wpAny _ A.in1 (pyNext (.ref I) >>= _) _ _ s
    refine wpAny_bind (W.done s _ _ hst fun h' tk hm => ?_)
    have q := hR h' tk hm
    rw [List.drop_length] at q
    exact wpAny_bind (wpAny_rule (wpAny_pure q))
  | succ k ih =>
    intro i s hk hi hst hR
    have hlt : i < vs.length := by omega
    refine codeAny_builtin entry_citer ?_
    rw [Around.under_plainId plain_citer _]
    show wpAny _ A.in1 (pyNext (.ref I) >>= _) _ _ s
    refine wpAny_bind (W.item i s _ _ hlt hst fun v h' tk hP hst' hm => ?_)
    have hv : vs[i] = v := by rw [List.getElem?_eq_getElem hlt] at hP; exact Option.some.inj hP
    show wpAny _ A.in1 (eqBool v x >>= _) _ _ _
    refine wpAny_bind (heq v (List.mem_of_getElem? hP) _ _ _ _ _ ?_)
    have ed : (vs.drop i).any r = (r v || (vs.drop (i + 1)).any r) := by rw [List.drop_eq_getElem_cons hlt, List.any_cons, hv]
    cases hr : r v with
    | true =>
      rw [ed, hr, Bool.true_or] at hR
      refine wpAny_bind (wpAny_rule (wpAny_pure (hR h' tk hm)))
    | false =>
      rw [ed, hr, Bool.false_or] at hR
      exact wpAny_pure ⟨plainId_quiet plain_citer _, ih (i + 1) { s with heap := h', toks := tk } (by omega) hlt hst' fun h2 tk2 hm2 => hR h2 tk2 fun b o nb e => hm2 b o nb (hm b o nb e)⟩
end
def rInVals (K : PySem.W.Frag) : R2 := fun x y H Q => ∃ v d kvs, y = .ref v ∧ H v = some (VvO d v) ∧ Rd H d (.dK kvs) ∧ flatV x = true ∧ (kvs.map (·.2)).all flatV = true ∧ Q (.bl (inV x (kvs.map (·.2)))) H
theorem op_inVals {X : Cx} (hc : X.calm = true) : OpR X (compareOp .In) (rInVals X.K) := by
  intro pins s σ H x y v u Q I rx ry ⟨va, d, kvs, ey, hv, hd, fx, fs, q⟩
  subst ey
  cases (show u = Value.ref va from ry)
  have view : s.heap.IsValuesView va d := (show ObjOk X.prog X.w H s.heap va (VvO d va) from I.hok va _ hv).1
  obtain ⟨hz, hsys, vs, rel, dof⟩ := dk_rd I.hok hd
  obtain ⟨ep, dat⟩ := dof.dictAt
  have hT := view.typeIs
  have hlv : kvs.length = vs.length := by unfold KV at rel; exact rel.length
  have hvals : Vals (kvs.map (·.2)) (vs.map (·.2)) := paired_ix (by rw [List.length_map, List.length_map]; exact hlv) fun i z e => by
    rw [List.getElem?_map] at e
    cases e2 : vs[i]? with
    | none => rw [e2] at e; cases e
    | some p =>
      rw [e2] at e
      obtain ⟨y, h1, h2⟩ := KV.at' rel (i := i) (k := p.1) (v := p.2) e2
      obtain rfl : p.2 = z := Option.some.inj e
      exact ⟨y, by rw [List.getElem?_map, h1]; rfl, h2⟩
  show wpAny (model X.prog X.w) X.A ((contains (.ref va) v) >>= fun b => pure (Value.bool b)) (EP X pins σ Q) X.xe s
  refine wpAny_bind ?_
  unfold contains
  refine wpAny_holding ?_
  have e0 : stdlibNamesSay? (.ref va) v = none := by
    first | rfl | (cases v <;> rfl)
  simp only [e0]
  refine wpAny_bind (wpAny_specialOf hT vals_noc ?_)
  refine wpAny_ite_split (fun hab => absurd hab (by decide)) (fun _ => ?_)
  unfold callSpecialUnlessNone?
  refine wpAny_bind (wpAny_bind (wpAny_specialOf hT vals_noc ?_))
  refine wpAny_pure ?_
  refine wpAny_bind (wpAny_rule ?_)
  refine wpAny_bind (wpAny_tryCatch (wpAny_pyIter_values (knd := mixKind X.prog X.w) view dat ?_))
  have kp : ∀ b o, s.heap.get? b = some o → (s.heap.push { cls := .type "dict_valueiterator", data := .fields #[.ref d, .int 0 0, .int vs.length 0, .int ep 0] }).get? b = some o := fun b o e => Heap.get?_push_of_some _ e
  have hit : (s.heap.push { cls := .type "dict_valueiterator", data := .fields #[.ref d, .int 0 0, .int vs.length 0, .int ep 0] }).IsValIter s.heap.objs.size d 0 vs.length ep := ⟨_, Heap.get?_push_size _ rfl, rfl, rfl⟩
  have ne : d ≠ s.heap.objs.size := Nat.ne_of_lt dat.lt_size
  have W := Walks.dictValues (prog := X.prog) (w := X.w) (A := X.A.in1.in1) (knd := mixKind X.prog X.w) (I.ok.hd hc) s.heap.objs.size d ne vs ep
  have ln : (vs.map (·.2)).length = vs.length := List.length_map ..
  have W2 : Walks X.prog X.w X.A.in1 s.heap.objs.size [s.heap.objs.size, d] [s.heap.objs.size] (vs.map (·.2)).length (fun i v => (vs.map (·.2))[i]? = some v) (fun i h => h.IsValIter s.heap.objs.size d i vs.length ep ∧ h.DictAt (mixKind X.prog X.w) d vs ep) :=
    ⟨W.of_in1.sub, W.of_in1.frame, fun i s Q E hi st hQ => W.of_in1.item i s Q E (by rw [ln] at hi; exact hi) st fun z h' tk hP => hQ z h' tk (by
      obtain ⟨k, e⟩ := hP
      rw [List.getElem?_map, e]
      rfl), fun s Q E st hQ => W.of_in1.done s Q E (by rw [ln] at st; exact st) hQ, W.of_in1.self⟩
  refine wpAny_bind (wpAny_runValue (citer_loop W2 v (eqU x) (fun z hz s' => mem_eqAt rx ‹_› hvals fs z hz) _ 0 { s with heap := _ } rfl (Nat.zero_le _) ⟨hit, dat.push _⟩ fun h' tk hm => ?_))
  have kp2 : ∀ b o, s.heap.get? b = some o → h'.get? b = some o := fun b o e => hm b o (fun z => by
    rw [List.mem_singleton.mp z] at e
    exact Nat.lt_irrefl _ (Heap.lt_size e)) (kp b o e)
  have fin : wpAny (model X.prog X.w) X.A (pure (Value.bool (inV x (kvs.map (·.2))))) (EP X pins σ Q) X.xe { s with heap := h', toks := tk } := wpAny_pure ⟨.bl _, H, I.kept (t' := tk) kp2, rfl, q⟩
  rw [List.drop_zero, any_eqU hvals fs]
  exact wpAny_pure fin
theorem inValsOf {X : Cx} {K : PySem.W.Frag} (h : X.K = K) (hc : X.calm = true) : OpR X (compareOp .In) (rInVals K) := h ▸ op_inVals hc
theorem bm0Of {X : Cx} {K : PySem.W.Frag} (h : X.K = K) {T id : String} {name : Str} {o : Expr} {to : TE} {r : V → List V → Hp → VK → Prop} {apos cpos : Pos} (pa : PlainAttrs T) (slot : Slot T name id) (hty : typeOf (.builtin id) = pure (.type "method_descriptor")) (hm : MtR X id r) (ho : PE X o to)
    (hbase : attributeBase o name X.env (eval o X.env) = eval o X.env := by rfl) (hline : (apos.endLine == cpos.line) = true := by rfl) : PE X (.Call (.Attribute o name apos) [] [] cpos) (tBM0 K T r to) := h ▸ pe_bm0 pa slot hty hm ho hbase hline
end Own
set_option Elab.async false
set_option linter.all false
set_option maxRecDepth 100000
set_option maxHeartbeats 2000000
/-! iter(d); what is walked of an instance whose own __iter__ returns iter(d) -/
namespace Own
open PySem PySem.Spec PyProof.Rows L2
/-! ### a base as large as the heap of a call -/
def padTo (h : Heap) (n : Nat) : Heap := { h with objs := h.objs ++ Array.replicate (n - h.objs.size) { cls := .none, data := .freed } }
theorem padTo_get {h : Heap} {n : Nat} {b : Addr} : (padTo h n).get? b = h.get? b := by
  unfold padTo Heap.get?
  rcases Nat.lt_or_ge b h.objs.size with lt | ge
  · rw [Array.getElem?_append_left lt]
  · rw [Array.getElem?_append_right ge, Array.getElem?_eq_none ge]
    rcases Nat.lt_or_ge (b - h.objs.size) (n - h.objs.size) with l2 | g2
    · rw [Array.getElem?_replicate, if_pos l2]
    · rw [Array.getElem?_replicate, if_neg (Nat.not_lt.mpr g2)]
theorem padTo_size {h : Heap} {n : Nat} (hn : h.objs.size ≤ n) : (padTo h n).objs.size = n := by
  unfold padTo
  simp only [Array.size_append, Array.size_replicate]
  omega
theorem padTo_ns {h : Heap} {n : Nat} {a : Addr} {m : Str → Option Value} (x : h.Ns a m) : (padTo h n).Ns a m := x.keeps fun b o e => padTo_get.trans e
theorem padTo_mod {K : PySem.W.Frag} {mg : Str → Option Value} {h : Heap} {n : Nat} (M : Mod K mg h) : Mod K mg (padTo h n) :=
  ⟨M.kin.keeps fun b o e => padTo_get.trans e, padTo_ns M.glob, M.blt.imp fun mb z => ⟨padTo_ns z.1, z.2⟩, M.nolimit.imp fun mc z => ⟨padTo_ns z.1, z.2⟩⟩
theorem padTo_frames {h base : Heap} {n : Nat} : ∀ {l : List Env}, h.FunFrames base l → h.FunFrames (padTo base n) l
  | [], _ => trivial
  | env :: rest, ⟨hk, ⟨L, o, hf, hn, ho, hd⟩, hr⟩ => ⟨hk, ⟨L, o, hf, padTo_get.trans hn, ho, hd⟩, padTo_frames hr⟩
section
variable {X : Cx} {pins : List (Addr × Obj)} {σ : L2.St} {H : Hp} {s : Shared}
theorem env_pad {A1 : Around} (hf : A1.frames = X.A.frames) (I : L2.Inv X pins σ H s) : Env0 X.prog X.w X.K X.mg (padTo X.base s.heap.objs.size) A1 X.stack s H := by
  have e := I.env0
  exact ⟨hf.trans e.frames, padTo_mod e.mod, fun b o z => e.bs b o (padTo_get.symm.trans z), by rw [padTo_size e.bsz]; exact Nat.le_refl _, padTo_frames e.funs, e.frf, e.hok, e.bare⟩
end
/-! ### iter(d) -/
def KiO (d : Addr) (od : Obj) (it : Addr) : HO := .ext fun h => ∃ es ep, od.data = .dict es ep ∧ h.IsKeyIter it d 0 es.size ep
def rIterD (n : Nat) : List V → Hp → VK → Prop := fun xs H Q => ∃ (d : Addr) (od : Obj) (kvs : List (Key × V)), xs = [.ref d] ∧ H d = some (.frz od (.dK kvs)) ∧ ∀ it, H it = none → n ≤ it → Q (.ref it) (upd H it (KiO d od it))
theorem call_iterD {X : Cx} : CallR X (.builtin "iter") (rIterD X.base.objs.size) := by
  intro pins s σ H xs us Q I r ⟨d, od, kvs, ex, hd, q⟩
  subst ex
  obtain rfl := Vals.ref1 r
  obtain ⟨hs, hgd, hx, es, ep, vs, hdt, hsz, kv, hm⟩ := I.frzK hd
  refine Calls.call_function_entry (by decide +kernel) (by decide +kernel) PySem.W.kdk_entry_iter (PySem.W.kdk_args_iter _) ?_
  unfold Builtin.«iter»
  refine wpAny_bind (m := someArgs "iter" 1 2 _) (wpAny_of_eq (a := [Value.ref d]) (by first | rfl | kernel_rfl!) ?_)
  show wpAny _ _ (pyIter (.ref d) >>= fun z => ret z) _ _ s
  refine wpAny_bind (iter_keys hs hgd hx hdt ?_)
  have hg : (s.heap.push { cls := .type "dict_keyiterator", data := .fields #[.ref d, .int 0 0, .int es.size 0, .int ep 0] }).get? s.heap.objs.size = some { cls := .type "dict_keyiterator", data := .fields #[.ref d, .int 0 0, .int es.size 0, .int ep 0] } := Heap.get?_push_size _ rfl
  refine wpAny_pure ⟨_, rfl, .ref s.heap.objs.size, upd H _ (KiO d od _), I.laid (t' := s.toks) (fun b u e => Heap.get?_push_of_some _ e) (Nat.le_refl _) ?_, rfl, q _ (I.hok.fresh (Nat.le_refl _)) (Nat.le_trans I.ok.bsz I.sz)⟩
  exact ⟨⟨es, ep, hdt, ⟨_, hg, rfl, rfl⟩⟩, ⟨_, hg⟩, fun h1 h2 ⟨es, ep, e, o, e1, r⟩ k => ⟨es, ep, e, o, k _ e1, r⟩⟩
/-- what __iter__ of the own class tells: an iterator over a dict's keys -/
def ItTold (R : It → Hp → Prop) (m : Nat) : VK := fun v H2 => ∃ it d od kvs, v = V.ref it ∧ H2 it = some (KiO d od it) ∧ H2 d = some (.frz od (.dK kvs)) ∧ m ≤ it ∧ R (Itk d od kvs) (ItX.dropH H2 it)
def iOwn (C : Addr) (sp : Nat → Sp) (E : XK) (te : TE) : TI := fun σ H R => te σ H fun x H1 => ∃ a dx fs, x = V.ref a ∧ H1 a = some (.ins C dx fs) ∧ ∀ m, sp m [x] H1 (ItTold R m) E
section
variable {X : Cx} {CX : CXT} {C f : Addr} {fd : FuncData} {ps : List Str} {n : Nat} {sp : Nat → Sp} {E : XK}
theorem own_it (F : ∀ base, FnOk X.prog X.w X.K X.mg base CX n f fd ps (sp base.objs.size)) (hb : L2.Binds X.K fd ps []) (hx : Passes CX X E) {A : Around} (hr : Room n A) (hfr : A.frames = X.A.frames)
    (hs : PySem.W.findIn X.K (.ref C) "__iter__" = some (some (.ref f))) (hf : PySem.W.isFn X.K (.ref f) = true)
    {pins : List (Addr × Obj)} {s : Shared} {σ : L2.St} {H : Hp} {a dx : Addr} {fs : List (Str × V)} {T : Nat → VK} (hT : ∀ m v H2, T m v H2 → ∃ it d od, v = V.ref it ∧ H2 it = some (KiO d od it)) (I : L2.Inv X pins σ H s) (ha : H a = some (.ins C dx fs)) (hsp : ∀ m, sp m [.ref a] H (T m) E) :
    wpAny (model X.prog X.w) A (pyIter (.ref a)) (fun u s' => ∃ it H2, u = .ref it ∧ L2.Inv X pins σ H2 s' ∧ T s.heap.objs.size (.ref it) H2) X.xe s := by
  obtain ⟨mA, J, _⟩ := ins_get I.hok ha
  obtain ⟨od0, J, _⟩ := J.look
  obtain ⟨m, hF⟩ := I.fr
  refine PySem.W.owit_iter hF I.ok.mod.kin J hs hf ?_
  have e0 := env_pad hfr I
  have hsp := hsp (padTo X.base s.heap.objs.size).objs.size
  have F := F (padTo X.base s.heap.objs.size)
  have hl := F.len _ _ _ _ hsp
  have r2 : L2.Vals [V.ref a] [Value.ref a] := .cons rfl .nil
  refine wpAny_call (codeAny_mono (F.run A X.stack s H ⟨[.ref a], []⟩ [.ref a] [.ref a] _ E hr e0 (by
    have := hb s [.ref a] I.kIn (by simpa using hl)
    simpa using this) r2 hsp) fun r s' hq => ?_)
  rw [padTo_size (Nat.le_trans I.ok.bsz I.sz)] at hq
  cases r with
  | error e => exact hx pins σ H s e s' I hq
  | ok fl =>
    cases fl with
    | ret u =>
      obtain ⟨v, H2, I2, rv, ht⟩ := I.after hq
      obtain ⟨it, d, od, ev, h1⟩ := hT _ _ _ ht
      subst ev
      cases (show u = Value.ref it from rv)
      have hk : ∃ es ep, od.data = .dict es ep ∧ s'.heap.IsKeyIter it d 0 es.size ep := (show ObjOk X.prog X.w H2 s'.heap it (KiO d od it) from I2.hok it _ h1).1
      obtain ⟨es, ep, _, hk⟩ := hk
      show PySem.W.OwitIt _ _ _ _ _ _
      unfold PySem.W.OwitIt
      refine wpAny_specialOf hk.typeIs PySem.F.slot_dict_keyiterator_next.lookup ?_
      exact ⟨it, H2, rfl, I2, ht⟩
    | next => exact False.elim hq
    | brk => exact False.elim hq
    | cont => exact False.elim hq
theorem pi_own {tg e : Expr} {te : TE} (F : ∀ base, FnOk X.prog X.w X.K X.mg base CX n f fd ps (sp base.objs.size)) (hb : L2.Binds X.K fd ps []) (hx : Passes CX X E) (hr : Room n X.A)
    (hs : PySem.W.findIn X.K (.ref C) "__iter__" = some (some (.ref f))) (hf : PySem.W.isFn X.K (.ref f) = true) (he : PE X e te) : PI X tg e (iOwn C sp E te) := by
  refine ⟨fun pins s σ H R I h => ?_⟩
  refine thn (he.run pins s σ H _ I h) fun v s1 ⟨x, H1, I1, r1, a, dx, fs, ex, ha, hsp⟩ => ?_
  subst ex
  cases (show v = Value.ref a from r1)
  refine wpAny_mono (own_it F hb hx hr rfl hs hf (fun m v H2 ⟨it, d, od, kvs, e1, e2, _⟩ => ⟨it, d, od, e1, e2⟩) I1 ha hsp) (fun u s2 h2 => ?_) fun _ _ z => z
  obtain ⟨it0, H2, eu, I2, it, d, od, kvs, e0, hi, hd, hz, hR⟩ := h2
  have e9 : it = it0 := by cases e0; rfl
  subst e9
  have hz := Nat.le_trans I1.sz hz
  obtain ⟨es, ep, hod, hk⟩ := (show ObjOk X.prog X.w H2 s2.heap it (KiO d od it) from I2.hok it _ hi).1
  obtain ⟨_, _, _, es2, ep2, vs, hdt, hsz, kv, hm⟩ := I2.frzK hd
  obtain ⟨e1, e2⟩ := dict_ep hod hdt
  subst e1
  rw [hsz] at hk
  refine ⟨it, [it], _, _, _, eu, ItX.inv_drop I2 hi, turn_keys it hod, hk, fun b hb => ?_, hR⟩
  rw [List.mem_singleton.mp hb]
  exact ItX.inv_fp I2 hi hz
/-- the keys fill a list -/
theorem key_loop {pins : List (Addr × Obj)} {σ : L2.St} {A : Around} {Rs : Result → Shared → Prop} {S d it : Addr} {od : Obj} {kvs : List (Key × V)} {ep : Nat} {es : Array DictEntry} (hh : A.handled = none) (hod : od.data = .dict es ep) (hz : kvs.length ≤ sizeLine) (hS : S ≠ it) (hSd : S ≠ d)
    : ∀ (k i : Nat) (H : Hp) (s : Shared), kvs.length - i = k → i ≤ kvs.length → L2.Inv X pins σ H s → FpOk X pins H it → H d = some (.frz od (.dK kvs)) → H S = some (.lst ((kvs.take i).map fun p => kV p.1)) → s.heap.IsKeyIter it d i kvs.length ep →
      (∀ s', L2.Inv X pins σ (upd H S (.lst (kvs.map fun p => kV p.1))) s' → Rs (.ok (.ret .none)) s') →
      codeAny (model X.prog X.w) A (.builtin "list.extend.loop" ⟨[.ref S, .ref it, .none], []⟩) Rs s := by
  intro k
  induction k with
  | zero =>
    intro i H s hk hi I fp hd hl st hR
    have e : i = kvs.length := by omega
    subst e
    obtain ⟨f0, f1, f2, f3, f4, f5⟩ := fp
    obtain ⟨_, hgd, _, es2, ep2, vs, hdt, hsz, kv, hm⟩ := I.frzK hd
    obtain ⟨e1, e2⟩ := dict_ep hod hdt
    subst e1
    subst e2
    refine codeAny_builtin PySem.F.entry_extend_loop ?_
    rw [Around.under_plainId PySem.F.plain_extend_loop _]
    show wpAny _ A.in1 (pyNext (.ref it) >>= _) _ _ s
    refine wpAny_bind (next_key_end hh st hgd hdt hsz (Nat.le_refl _) fun h' eb => ?_)
    have I1 := I.turned (t' := s.toks) (fun b o hb e => eb b o hb e) f0 f1 f3 f4 f5
    rw [List.take_length] at hl
    refine wpAny_pure (hR _ ?_)
    rw [show upd H S (.lst (kvs.map fun p => kV p.1)) = H from by
      funext b
      by_cases hb : b = S
      · rw [hb, upd_same, hl]
      · rw [upd_ne hb]]
    exact I1
  | succ k ih =>
    intro i H s hk hi I fp hd hl st hR
    have hlt : i < kvs.length := by omega
    obtain ⟨f0, f1, f2, f3, f4, f5⟩ := fp
    obtain ⟨_, hgd, _, es2, ep2, vs, hdt, hsz, kv, hm⟩ := I.frzK hd
    obtain ⟨e1, e2⟩ := dict_ep hod hdt
    subst e1
    subst e2
    have hlv : kvs.length = vs.length := Paired.length kv
    obtain ⟨u, hu, ru⟩ := kv_get kv (show kvs[i]? = some (kvs[i].1, kvs[i].2) from List.getElem?_eq_getElem hlt)
    refine codeAny_builtin PySem.F.entry_extend_loop ?_
    rw [Around.under_plainId PySem.F.plain_extend_loop _]
    show wpAny _ A.in1 (pyNext (.ref it) >>= _) _ _ s
    rw [hlv] at st
    refine wpAny_bind (wpAny_pyNext_dict_item st hm hu fun key h' hkey st' sb => ?_)
    have I1 : L2.Inv X pins σ H { s with heap := h' } := I.turned (t' := s.toks) (fun b ob hb e => (sb.2 b hb).trans e) f0 f1 f3 f4 f5
    obtain ⟨z, its, cc, r2, hln, e⟩ := I1.lstM hl
    have lt2 : its.length = i := by rw [← hln, List.length_map, List.length_take]; omega
    show wpAny _ A.in1 (updateSeq S (·.push key) >>= _) _ _ _
    have et : (kvs.take (i + 1)).map (fun p => kV p.1) = (kvs.take i).map (fun p => kV p.1) ++ [kV kvs[i].1] := by rw [List.take_succ, List.getElem?_eq_getElem hlt, List.map_append]; rfl
    refine wpAny_bind (wpAny_updateSeq e rfl (wpAny_pure ⟨plainId_quiet PySem.F.plain_extend_loop _, ?_⟩) (by rw [List.size_toArray]; omega) (by show (its.toArray.push key).size ≤ sizeLine + 1; rw [Array.size_push, List.size_toArray]; omega))
    have I3 := I1.lset (f := (·.push key)) (its' := its ++ [key]) (t' := s.toks) hl e (by simp) (r2.append (.cons (relV_key (show keyIs kvs[i].1 key = true from hkey)) .nil)) (by rw [List.length_append, List.length_singleton, List.length_map, List.length_take]; omega)
    rw [← et] at I3
    have hit2 : (upd H S (.lst ((kvs.take (i + 1)).map fun p => kV p.1))) it = none := by rw [upd_ne hS.symm]; exact f0
    refine ih (i + 1) _ _ (by omega) hlt I3 ⟨hit2, f1, f2, f3, f4, f5⟩ (by rw [upd_ne hSd.symm]; exact hd) upd_same ?_ (fun s' J => hR s' (by rw [upd_upd] at J; exact J))
    show (h'.update S _).IsKeyIter it d (i + 1) kvs.length _
    rw [hlv]
    exact st'.at fun o e => (Heap.get?_update_other _ _ hS).trans e
end
end Own
set_option Elab.async false
set_option linter.all false
set_option maxRecDepth 100000
set_option maxHeartbeats 2000000
/-! list(o), o an instance whose own __iter__ returns iter(d) -/
namespace Own
open PySem PySem.Spec PyProof.Rows L2
/-- a class that tells no length -/
theorem hint_no {M : Model} {A : Around} {E : Value → Shared → Prop} {s : Shared} {Q : Bool → Shared → Prop} {K : PySem.W.Frag} {a C : Addr} {ox : Obj} {od : Option Obj} (n1 : PySem.W.findIn K (.ref C) "__len__" = some none) (n2 : PySem.W.findIn K (.ref C) "__length_hint__" = some none)
    (hK : K.In s.heap) (J : PySem.W.InstAt s.heap a ox C od) (q : Q true s) : wpAny M A (Builtin.List.listLengthHint (.ref a)) Q E s := by
  have l1 := PySem.W.looks_findIn (M := M) hK n1
  have l2 := PySem.W.looks_findIn (M := M) hK n2
  unfold Builtin.List.listLengthHint
  refine wpAny_bind (wpAny_bind (J.type.here (l1.here ?_)))
  refine PySem.W.KFB.if_not (by rfl) (PySem.W.KFB.if_not (by rfl) ?_)
  exact wpAny_bind (wpAny_bind (J.type.here (l2.here (wpAny_pure q))))
def ListTold (C a S : Addr) (Q : VK) (m : Nat) : VK := fun v H2 => ∃ it d od kvs, v = V.ref it ∧ H2 it = some (KiO d od it) ∧ H2 d = some (.frz od (.dK kvs)) ∧ H2 S = some (.lst []) ∧ m ≤ it ∧ (∃ dx fs, H2 a = some (.ins C dx fs)) ∧ Q (.ref S) (upd (ItX.dropH H2 it) S (.lst (kvs.map fun p => kV p.1)))
def rListIt (C : Addr) (sp : Nat → Sp) (E : XK) : List V → Hp → VK → Prop := fun xs H Q => ∃ a dx fs, xs = [V.ref a] ∧ H a = some (.ins C dx fs) ∧ ∀ S, H S = none → ∀ m, sp m [.ref a] (upd H S (.lst [])) (ListTold C a S Q m) E
section
variable {X : Cx} {CX : CXT} {C f : Addr} {fd : FuncData} {ps : List Str} {n : Nat} {sp : Nat → Sp} {E : XK}
theorem list_fill {pins : List (Addr × Obj)} {σ : L2.St} {A : Around} {Rs : Result → Shared → Prop} {S a dx : Addr} {fs : List (Str × V)} {H : Hp} {s : Shared} {Q : VK}
    (F : ∀ base, FnOk X.prog X.w X.K X.mg base CX n f fd ps (sp base.objs.size)) (hb : L2.Binds X.K fd ps []) (hx : Passes CX X E) (hr : Room n A.in1) (hfr : A.in1.frames = X.A.frames) (hh : A.handled = none)
    (hs : PySem.W.findIn X.K (.ref C) "__iter__" = some (some (.ref f))) (hf : PySem.W.isFn X.K (.ref f) = true) (n1 : PySem.W.findIn X.K (.ref C) "__len__" = some none) (n2 : PySem.W.findIn X.K (.ref C) "__length_hint__" = some none)
    (I : L2.Inv X pins σ H s) (ha : H a = some (.ins C dx fs)) (hS : H S = some (.lst [])) (hsp : ∀ m, sp m [.ref a] H (ListTold C a S Q m) E)
    (done : ∀ H' s', L2.Inv X pins σ H' s' → Q (.ref S) H' → Rs (.ok (.ret .none)) s') (bad : ∀ e s', X.xe e s' → Rs (.error e) s') :
    wpAny (model X.prog X.w) A.in1 (Builtin.List.listExtendWith (.ref S) (.ref a) .none)
      (fun fin s' => match fin with | .done g => Rs (.ok g) s' | .again c' => c'.quiet = true ∧ codeAny (model X.prog X.w) A c' Rs s') (fun e s' => Rs (.error e) s') s := by
  have neS : S ≠ a := ne_of hS ha (fun z => nomatch z)
  obtain ⟨mA, J, _⟩ := ins_get I.hok ha
  obtain ⟨od0, J, _⟩ := J.look
  have t1 : Builtin.List.listSameRef (.ref S) (.ref a) = false := by simp [Builtin.List.listSameRef, neS]
  have t2 : (Value.ref C == Value.type "list" || Value.ref C == Value.type "tuple") = false := rfl
  unfold Builtin.List.listExtendWith
  refine wpAny_bind (J.type.here ?_)
  rw [t1, Bool.false_or]
  simp only [t2, Bool.false_eq_true, if_false]
  refine wpAny_bind (wpAny_mono (own_it F hb hx hr hfr hs hf (fun m v H2 ⟨it, d, od, kvs, e1, e2, _⟩ => ⟨it, d, od, e1, e2⟩) I ha hsp) (fun u s2 h2 => ?_) bad)
  obtain ⟨it0, H2, eu, I2, it, d, od, kvs, e0, hi, hd, hS2, hz, ⟨dx2, fs2, ha2⟩, hQ⟩ := h2
  subst eu
  have e9 : it = it0 := by cases e0; rfl
  subst e9
  obtain ⟨mB, J2, _⟩ := ins_get I2.hok ha2
  obtain ⟨od2, J2, _⟩ := J2.look
  refine wpAny_bind (wpAny_holding (hint_no n1 n2 I2.kIn J2 ?_))
  obtain ⟨es, ep, hod, hk⟩ := (show ObjOk X.prog X.w H2 s2.heap it (KiO d od it) from I2.hok it _ hi).1
  obtain ⟨_, _, _, es2, ep2, vs, hdt, hsz, kv, hm⟩ := I2.frzK hd
  obtain ⟨e1, e2⟩ := dict_ep hod hdt
  subst e1
  have nSi : S ≠ it := fun e => by rw [e, hi] at hS2; cases hS2
  have nSd : S ≠ d := fun e => by rw [e, hd] at hS2; cases hS2
  have ndi : d ≠ it := fun e => by rw [e, hi] at hd; cases hd
  have hzk : kvs.length ≤ sizeLine := (dk_rd I2.hok (.inr ⟨od, hd⟩)).1
  have I3 := ItX.inv_drop I2 hi
  have fp := ItX.inv_fp I2 hi (Nat.le_trans I.sz hz)
  have hS3 : ItX.dropH H2 it S = some (.lst []) := (ItX.dropH_ne nSi).trans hS2
  have hd3 : ItX.dropH H2 it d = some (.frz od (.dK kvs)) := (ItX.dropH_ne ndi).trans hd
  generalize ItX.dropH H2 it = H3 at I3 fp hS3 hd3 hQ
  have go : ∀ (s' : Shared), L2.Inv X pins σ H3 s' → s'.heap.IsKeyIter it d 0 kvs.length ep → codeAny (model X.prog X.w) A (.builtin "list.extend.loop" ⟨[.ref S, .ref it, .none], []⟩) Rs s' := fun s' I' st' =>
    key_loop hh hod hzk nSi nSd _ 0 H3 s' rfl (Nat.zero_le _) I' fp hd3 hS3 st' fun s'' I'' => done _ s'' I'' hQ
  rw [hsz] at hk
  obtain ⟨zz, its, cc, r3, ln3, e3⟩ := I3.lstM hS3
  cases r3
  refine wpAny_ite_split (fun _ => ?_) (fun _ => wpAny_pure ⟨plainId_quiet PySem.F.plain_extend_loop _, go s2 I3 hk⟩)
  refine wpAny_bind (wpAny_rule (wpAny_bind ?_))
  show wpAny _ _ (updateSeq S (·.push .none) >>= fun _ => updateSeq S (·.pop)) _ _ _
  refine wpAny_bind (wpAny_updateSeq e3 rfl ?_)
  have J1 := I3.lset (f := (·.push Value.none)) (its' := [Value.none]) (ys := [V.non]) (t' := s2.toks) hS3 e3 (by simp) (.cons rfl .nil) (by rw [List.length_singleton, sizeLine_eq]; decide)
  obtain ⟨z4, its4, c4, r4, ln4, e4⟩ := J1.lstM upd_same
  obtain ⟨u4, rfl, ru4⟩ := r4.one
  refine wpAny_updateSeq e4 rfl (wpAny_pure ⟨plainId_quiet PySem.F.plain_extend_loop _, go _ ?_ ?_⟩) (by show 1 ≤ sizeLine; rw [sizeLine_eq]; decide) (by show 0 ≤ sizeLine + 1; exact Nat.zero_le _)
  · have J2 := J1.lset (f := (·.pop)) (its := [u4]) (its' := []) (ys := []) (t' := s2.toks) upd_same e4 (by rfl) .nil (Nat.zero_le _)
    rw [upd_upd, show upd H3 S (.lst []) = H3 from by
      funext b
      by_cases hb : b = S
      · rw [hb, upd_same, hS3]
      · rw [upd_ne hb]] at J2
    exact J2
  · exact hk.at fun o e => (Heap.get?_update_other _ _ nSi).trans ((Heap.get?_update_other _ _ nSi).trans e)
theorem call_listIt (F : ∀ base, FnOk X.prog X.w X.K X.mg base CX n f fd ps (sp base.objs.size)) (hb : L2.Binds X.K fd ps []) (hx : Passes CX X E) (hc : X.calm = true) (hr : Room (n + 2) X.A)
    (hs : PySem.W.findIn X.K (.ref C) "__iter__" = some (some (.ref f))) (hf : PySem.W.isFn X.K (.ref f) = true) (n1 : PySem.W.findIn X.K (.ref C) "__len__" = some none) (n2 : PySem.W.findIn X.K (.ref C) "__length_hint__" = some none) :
    CallR X (.type "list") (rListIt C sp E) := by
  intro pins s σ H xs us Q I rv ⟨a, dx, fs, ex, ha, hq⟩
  subst ex
  obtain rfl := Vals.ref1 rv
  refine callType_codes (Q₁ := fun ob s1 => ob = .ref s.heap.objs.size ∧ s1 = { s with heap := s.heap.push { cls := .type "list", data := .seq #[] } }) PySem.F.called_list (PySem.F.typeCall_list_1 _) PySem.F.entry_list_init
    (code_list_new _ ⟨rfl, rfl⟩) fun ob s1 h1 => ?_
  obtain ⟨z1, z2⟩ := h1
  subst z1
  subst z2
  have hS : (s.heap.push { cls := .type "list", data := .seq #[] }).get? s.heap.objs.size = some { cls := .type "list", data := .seq #[] } := Heap.get?_push_size _ rfl
  have fr : H s.heap.objs.size = none := I.hok.fresh (Nat.le_refl _)
  refine ⟨⟨_, hS, rfl⟩, PySem.F.args_list_init_2 _ _, ?_⟩
  have I1 : L2.Inv X pins σ (upd H s.heap.objs.size (.lst [])) { s with heap := s.heap.push { cls := .type "list", data := .seq #[] } } := I.lnew (its := []) (t' := s.toks) .nil (Nat.zero_le _)
  show wpAny _ _ (Builtin.List.listItems (.ref s.heap.objs.size) >>= fun old => Builtin.List.listUpdate (.ref s.heap.objs.size) (fun _ => #[]) >>= fun _ => letGo old.toList.reverse >>= fun _ => Builtin.List.listExtendWith (.ref s.heap.objs.size) (.ref a) .none) _ _ _
  refine wpAny_bind ?_
  unfold Builtin.List.listItems
  refine wpAny_bind (wpAny_seqItems hS rfl (wpAny_pure ?_))
  refine wpAny_bind ?_
  show wpAny _ _ (updateSeq s.heap.objs.size (fun _ => #[])) _ _ _
  refine wpAny_updateSeq hS rfl (wpAny_bind (wpAny_letGo ?_))
  have I2 := I1.lset (f := fun _ => #[]) (its := []) (its' := []) (ys := []) (t' := s.toks) upd_same hS rfl .nil (Nat.zero_le _)
  rw [upd_upd] at I2
  exact list_fill (A := X.A.in1) (Rs := wants (fun r s2 => r = .none ∧ EP X pins σ Q (.ref s.heap.objs.size) s2) X.xe) F hb hx (Room.in1 (Room.in1 hr)) rfl (I.ok.hd hc) hs hf n1 n2 I2 (by rw [upd_ne (ne_of_none ha fr)]; exact ha) upd_same (hq _ fr)
    (fun H' s' I' q => ⟨rfl, .ref _, H', I', rfl, q⟩) fun e s' he => he
end
end Own
set_option Elab.async false
set_option linter.all false
set_option maxRecDepth 100000
set_option maxHeartbeats 2000000
/-! list(o), o an instance whose own __iter__ returns iter(d), and whose own __len__ tells a number -/
namespace Own
open PySem PySem.Spec PyProof.Rows L2
section
variable {X : Cx} {CX : CXT} {C f g : Addr} {fd gd : FuncData} {ps qs : List Str} {n m : Nat} {sp : Nat → Sp} {sl : Sp} {E : XK}
theorem own_call1 (F : FnOk X.prog X.w X.K X.mg X.base CX0 m g gd qs sl) (hb : L2.Binds X.K gd qs []) {A : Around} (hr : Room m A) (hfr : A.frames = X.A.frames)
    {pins : List (Addr × Obj)} {s : Shared} {σ : L2.St} {H : Hp} {x : V} {u : Value} {R : V → Hp → Prop} (I : L2.Inv X pins σ H s) (rx : L2.RelV x u) (hsp : sl [x] H R E) :
    wpAny (model X.prog X.w) A (call (.ref g) [u]) (fun w s' => ∃ z H', L2.RelV z w ∧ L2.Inv X pins σ H' s' ∧ R z H') (fun _ _ => False) s := by
  have e0 : Env0 X.prog X.w X.K X.mg X.base A X.stack s H := by
    have e := I.env0
    exact ⟨by rw [hfr]; exact e.frames, e.mod, e.bs, e.bsz, e.funs, e.frf, e.hok, e.bare⟩
  have hl := F.len _ _ _ _ hsp
  have r2 : L2.Vals [x] [u] := .cons rx .nil
  refine wpAny_call (codeAny_mono (F.run A X.stack s H ⟨[u], []⟩ [u] [x] R E hr e0 (by
    have := hb s [u] I.kIn (by simpa using hl)
    simpa using this) r2 hsp) fun r s' hq => ?_)
  cases r with
  | error e => exact False.elim hq
  | ok fl =>
    cases fl with
    | ret w =>
      obtain ⟨z, H', I', rz, q⟩ := I.after hq
      exact ⟨z, H', rz, I', q⟩
    | next => exact False.elim hq
    | brk => exact False.elim hq
    | cont => exact False.elim hq
/-- what an own __len__ has to tell -/
def LenTold (H : Hp) : VK := fun v H' => ∃ k : Nat, v = .int k ∧ k ≤ sizeLine ∧ H' = H
theorem len_own (F : FnOk X.prog X.w X.K X.mg X.base CX0 m g gd qs sl) (hb : L2.Binds X.K gd qs []) {A : Around} (hr : Room (m + 1) A) (hfr : A.frames = X.A.frames)
    (hs : PySem.W.findIn X.K (.ref C) "__len__" = some (some (.ref g))) (hf : PySem.W.isFn X.K (.ref g) = true) {pins : List (Addr × Obj)} {s : Shared} {σ : L2.St} {H : Hp} {a dx : Addr} {fs : List (Str × V)} (I : L2.Inv X pins σ H s) (ha : H a = some (.ins C dx fs)) (hsp : sl [.ref a] H (LenTold H) E) :
    wpAny (model X.prog X.w) A (call (.builtin "len") [.ref a]) (fun r s' => ∃ (k : Nat) (t : Tok), k ≤ sizeLine ∧ r = .int k t ∧ L2.Inv X pins σ H s') (fun _ _ => False) s := by
  obtain ⟨mA, J, _⟩ := ins_get I.hok ha
  obtain ⟨od0, J, _⟩ := J.look
  refine Calls.call_function_entry kind_len plain_len entry_len (args_len1 _) ?_
  unfold Builtin.«len»
  refine wpAny_bind (m := oneArg "len" _) (wpAny_pure ?_)
  refine wpAny_bind (m := callSpecial? (.ref a) (PySem.Str.ofString "__len__")) ?_
  unfold callSpecial? specialOf
  refine wpAny_bind (wpAny_bind (J.type.here ((PySem.W.looks_findIn I.kIn hs).here ?_)))
  refine wpAny_holding (wpAny_bind ((PySem.W.bind_fn I.kIn _ (beq_iff_eq.mp hf)).here ?_))
  refine wpAny_bind (wpAny_mono (own_call1 (A := A.in1) F hb (Room.in1 hr) hfr I (x := .ref a) rfl hsp) (fun w s' h => ?_) fun _ _ h => h)
  obtain ⟨z, H', rz, I', k, ez, hk, eH⟩ := h
  subst ez
  subst eH
  obtain ⟨t, rfl⟩ := (show ∃ t, w = Value.int k t from rz)
  have hz : sizeLine = 16777216 := sizeLine_eq
  refine wpAny_pure (wpAny_bind (wpAny_holding (wpAny_pure ?_)))
  refine wpAny_bind (wpAny_letGo ?_)
  show wpAny _ _ (if ((k : Nat) : Int) < 0 then _ else _) _ _ _
  rw [if_neg (by omega)]
  show wpAny _ _ (if ((k : Nat) : Int) ≥ 2 ^ 63 then _ else _) _ _ _
  rw [if_neg (by omega)]
  exact wpAny_bind (wpAny_mkInt (wpAny_pure ⟨_, rfl, _, _, hk, rfl, I'.tok _⟩))
theorem hint_own (F : FnOk X.prog X.w X.K X.mg X.base CX0 m g gd qs sl) (hb : L2.Binds X.K gd qs []) {A : Around} (hr : Room (m + 1) A) (hfr : A.frames = X.A.frames)
    (hs : PySem.W.findIn X.K (.ref C) "__len__" = some (some (.ref g))) (hf : PySem.W.isFn X.K (.ref g) = true) {pins : List (Addr × Obj)} {s : Shared} {σ : L2.St} {H : Hp} {a dx : Addr} {fs : List (Str × V)} (I : L2.Inv X pins σ H s) (ha : H a = some (.ins C dx fs)) (hsp : sl [.ref a] H (LenTold H) E)
    {Q : Bool → Shared → Prop} {Eh : Value → Shared → Prop} (q : ∀ b s', L2.Inv X pins σ H s' → Q b s') : wpAny (model X.prog X.w) A (Builtin.List.listLengthHint (.ref a)) Q Eh s := by
  obtain ⟨mA, J, _⟩ := ins_get I.hok ha
  obtain ⟨od0, J, _⟩ := J.look
  have l1 := PySem.W.looks_findIn (M := model X.prog X.w) I.kIn hs
  unfold Builtin.List.listLengthHint
  refine wpAny_bind (wpAny_bind (J.type.here (l1.here ?_)))
  refine PySem.W.KFB.if_not (by rfl) ?_
  refine wpAny_bind (wpAny_rule (wpAny_bind (wpAny_attempt (wpAny_mono (len_own F hb hr hfr hs hf I ha hsp) (fun r s' h => ?_) fun e s' h => h.elim))))
  obtain ⟨k, t, hk, rfl, I'⟩ := h
  have hz : sizeLine = 16777216 := sizeLine_eq
  refine wpAny_bind (wpAny_pure ?_)
  refine PySem.W.KFB.if_not (by show decide _ = false; exact decide_eq_false (by rw [Int.toNat_natCast]; omega)) ?_
  exact wpAny_pure (q _ _ I')
def ListToldL (C a S : Addr) (sl : Sp) (E : XK) (Q : VK) (m : Nat) : VK := fun v H2 => ∃ it d od kvs, v = V.ref it ∧ H2 it = some (KiO d od it) ∧ H2 d = some (.frz od (.dK kvs)) ∧ H2 S = some (.lst []) ∧ m ≤ it ∧ (∃ dx fs, H2 a = some (.ins C dx fs)) ∧ sl [V.ref a] H2 (LenTold H2) E ∧ Q (.ref S) (upd (ItX.dropH H2 it) S (.lst (kvs.map fun p => kV p.1)))
def rListIL (C : Addr) (sp : Nat → Sp) (sl : Sp) (E : XK) : List V → Hp → VK → Prop := fun xs H Q => ∃ a dx fs, xs = [V.ref a] ∧ H a = some (.ins C dx fs) ∧ ∀ S, H S = none → ∀ m, sp m [.ref a] (upd H S (.lst [])) (ListToldL C a S sl E Q m) E
theorem list_fillL {pins : List (Addr × Obj)} {σ : L2.St} {A : Around} {Rs : Result → Shared → Prop} {S a dx : Addr} {fs : List (Str × V)} {H : Hp} {s : Shared} {Q : VK}
    (F : ∀ base, FnOk X.prog X.w X.K X.mg base CX n f fd ps (sp base.objs.size)) (hb : L2.Binds X.K fd ps []) (hx : Passes CX X E) (hr : Room n A.in1) (hrm : Room (m + 1) A.in1) (hfr : A.in1.frames = X.A.frames) (hh : A.handled = none)
    (hs : PySem.W.findIn X.K (.ref C) "__iter__" = some (some (.ref f))) (hf : PySem.W.isFn X.K (.ref f) = true) (G : FnOk X.prog X.w X.K X.mg X.base CX0 m g gd qs sl) (hgb : L2.Binds X.K gd qs []) (n1 : PySem.W.findIn X.K (.ref C) "__len__" = some (some (.ref g))) (n2 : PySem.W.isFn X.K (.ref g) = true)
    (I : L2.Inv X pins σ H s) (ha : H a = some (.ins C dx fs)) (hS : H S = some (.lst [])) (hsp : ∀ m, sp m [.ref a] H (ListToldL C a S sl E Q m) E)
    (done : ∀ H' s', L2.Inv X pins σ H' s' → Q (.ref S) H' → Rs (.ok (.ret .none)) s') (bad : ∀ e s', X.xe e s' → Rs (.error e) s') :
    wpAny (model X.prog X.w) A.in1 (Builtin.List.listExtendWith (.ref S) (.ref a) .none)
      (fun fin s' => match fin with | .done g => Rs (.ok g) s' | .again c' => c'.quiet = true ∧ codeAny (model X.prog X.w) A c' Rs s') (fun e s' => Rs (.error e) s') s := by
  have neS : S ≠ a := ne_of hS ha (fun z => nomatch z)
  obtain ⟨mA, J, _⟩ := ins_get I.hok ha
  obtain ⟨od0, J, _⟩ := J.look
  have t1 : Builtin.List.listSameRef (.ref S) (.ref a) = false := by simp [Builtin.List.listSameRef, neS]
  have t2 : (Value.ref C == Value.type "list" || Value.ref C == Value.type "tuple") = false := rfl
  unfold Builtin.List.listExtendWith
  refine wpAny_bind (J.type.here ?_)
  rw [t1, Bool.false_or]
  simp only [t2, Bool.false_eq_true, if_false]
  refine wpAny_bind (wpAny_mono (own_it F hb hx hr hfr hs hf (fun m v H2 ⟨it, d, od, kvs, e1, e2, _⟩ => ⟨it, d, od, e1, e2⟩) I ha hsp) (fun u s2 h2 => ?_) bad)
  obtain ⟨it0, H2, eu, I2, it, d, od, kvs, e0, hi, hd, hS2, hz, ⟨dx2, fs2, ha2⟩, hL, hQ⟩ := h2
  subst eu
  have e9 : it = it0 := by cases e0; rfl
  subst e9
  obtain ⟨mB, J2, _⟩ := ins_get I2.hok ha2
  obtain ⟨od2, J2, _⟩ := J2.look
  refine wpAny_bind (wpAny_holding (hint_own G hgb hrm hfr n1 n2 I2 ha2 hL fun b9 s2 I2 => ?_))
  obtain ⟨es, ep, hod, hk⟩ := (show ObjOk X.prog X.w H2 s2.heap it (KiO d od it) from I2.hok it _ hi).1
  obtain ⟨_, _, _, es2, ep2, vs, hdt, hsz, kv, hm⟩ := I2.frzK hd
  obtain ⟨e1, e2⟩ := dict_ep hod hdt
  subst e1
  have nSi : S ≠ it := fun e => by rw [e, hi] at hS2; cases hS2
  have nSd : S ≠ d := fun e => by rw [e, hd] at hS2; cases hS2
  have ndi : d ≠ it := fun e => by rw [e, hi] at hd; cases hd
  have hzk : kvs.length ≤ sizeLine := (dk_rd I2.hok (.inr ⟨od, hd⟩)).1
  have I3 := ItX.inv_drop I2 hi
  have fp := ItX.inv_fp I2 hi (Nat.le_trans I.sz hz)
  have hS3 : ItX.dropH H2 it S = some (.lst []) := (ItX.dropH_ne nSi).trans hS2
  have hd3 : ItX.dropH H2 it d = some (.frz od (.dK kvs)) := (ItX.dropH_ne ndi).trans hd
  generalize ItX.dropH H2 it = H3 at I3 fp hS3 hd3 hQ
  have go : ∀ (s' : Shared), L2.Inv X pins σ H3 s' → s'.heap.IsKeyIter it d 0 kvs.length ep → codeAny (model X.prog X.w) A (.builtin "list.extend.loop" ⟨[.ref S, .ref it, .none], []⟩) Rs s' := fun s' I' st' =>
    key_loop hh hod hzk nSi nSd _ 0 H3 s' rfl (Nat.zero_le _) I' fp hd3 hS3 st' fun s'' I'' => done _ s'' I'' hQ
  rw [hsz] at hk
  obtain ⟨zz, its, cc, r3, ln3, e3⟩ := I3.lstM hS3
  cases r3
  refine wpAny_ite_split (fun _ => ?_) (fun _ => wpAny_pure ⟨plainId_quiet PySem.F.plain_extend_loop _, go s2 I3 hk⟩)
  refine wpAny_bind (wpAny_rule (wpAny_bind ?_))
  show wpAny _ _ (updateSeq S (·.push .none) >>= fun _ => updateSeq S (·.pop)) _ _ _
  refine wpAny_bind (wpAny_updateSeq e3 rfl ?_)
  have J1 := I3.lset (f := (·.push Value.none)) (its' := [Value.none]) (ys := [V.non]) (t' := s2.toks) hS3 e3 (by simp) (.cons rfl .nil) (by rw [List.length_singleton, sizeLine_eq]; decide)
  obtain ⟨z4, its4, c4, r4, ln4, e4⟩ := J1.lstM upd_same
  obtain ⟨u4, rfl, ru4⟩ := r4.one
  refine wpAny_updateSeq e4 rfl (wpAny_pure ⟨plainId_quiet PySem.F.plain_extend_loop _, go _ ?_ ?_⟩) (by show 1 ≤ sizeLine; rw [sizeLine_eq]; decide) (by show 0 ≤ sizeLine + 1; exact Nat.zero_le _)
  · have J2 := J1.lset (f := (·.pop)) (its := [u4]) (its' := []) (ys := []) (t' := s2.toks) upd_same e4 (by rfl) .nil (Nat.zero_le _)
    rw [upd_upd, show upd H3 S (.lst []) = H3 from by
      funext b
      by_cases hb : b = S
      · rw [hb, upd_same, hS3]
      · rw [upd_ne hb]] at J2
    exact J2
  · exact hk.at fun o e => (Heap.get?_update_other _ _ nSi).trans ((Heap.get?_update_other _ _ nSi).trans e)
theorem call_listIL (F : ∀ base, FnOk X.prog X.w X.K X.mg base CX n f fd ps (sp base.objs.size)) (hb : L2.Binds X.K fd ps []) (hx : Passes CX X E) (hc : X.calm = true) (hr : Room (n + 2) X.A) (hrm : Room (m + 3) X.A)
    (hs : PySem.W.findIn X.K (.ref C) "__iter__" = some (some (.ref f))) (hf : PySem.W.isFn X.K (.ref f) = true) (G : FnOk X.prog X.w X.K X.mg X.base CX0 m g gd qs sl) (hgb : L2.Binds X.K gd qs []) (n1 : PySem.W.findIn X.K (.ref C) "__len__" = some (some (.ref g))) (n2 : PySem.W.isFn X.K (.ref g) = true) :
    CallR X (.type "list") (rListIL C sp sl E) := by
  intro pins s σ H xs us Q I rv ⟨a, dx, fs, ex, ha, hq⟩
  subst ex
  obtain rfl := Vals.ref1 rv
  refine callType_codes (Q₁ := fun ob s1 => ob = .ref s.heap.objs.size ∧ s1 = { s with heap := s.heap.push { cls := .type "list", data := .seq #[] } }) PySem.F.called_list (PySem.F.typeCall_list_1 _) PySem.F.entry_list_init
    (code_list_new _ ⟨rfl, rfl⟩) fun ob s1 h1 => ?_
  obtain ⟨z1, z2⟩ := h1
  subst z1
  subst z2
  have hS : (s.heap.push { cls := .type "list", data := .seq #[] }).get? s.heap.objs.size = some { cls := .type "list", data := .seq #[] } := Heap.get?_push_size _ rfl
  have fr : H s.heap.objs.size = none := I.hok.fresh (Nat.le_refl _)
  refine ⟨⟨_, hS, rfl⟩, PySem.F.args_list_init_2 _ _, ?_⟩
  have I1 : L2.Inv X pins σ (upd H s.heap.objs.size (.lst [])) { s with heap := s.heap.push { cls := .type "list", data := .seq #[] } } := I.lnew (its := []) (t' := s.toks) .nil (Nat.zero_le _)
  show wpAny _ _ (Builtin.List.listItems (.ref s.heap.objs.size) >>= fun old => Builtin.List.listUpdate (.ref s.heap.objs.size) (fun _ => #[]) >>= fun _ => letGo old.toList.reverse >>= fun _ => Builtin.List.listExtendWith (.ref s.heap.objs.size) (.ref a) .none) _ _ _
  refine wpAny_bind ?_
  unfold Builtin.List.listItems
  refine wpAny_bind (wpAny_seqItems hS rfl (wpAny_pure ?_))
  refine wpAny_bind ?_
  show wpAny _ _ (updateSeq s.heap.objs.size (fun _ => #[])) _ _ _
  refine wpAny_updateSeq hS rfl (wpAny_bind (wpAny_letGo ?_))
  have I2 := I1.lset (f := fun _ => #[]) (its := []) (its' := []) (ys := []) (t' := s.toks) upd_same hS rfl .nil (Nat.zero_le _)
  rw [upd_upd] at I2
  exact list_fillL (A := X.A.in1) (Rs := wants (fun r s2 => r = .none ∧ EP X pins σ Q (.ref s.heap.objs.size) s2) X.xe) F hb hx (Room.in1 (Room.in1 hr)) (Room.in1 (Room.in1 hrm)) rfl (I.ok.hd hc) hs hf G hgb n1 n2 I2 (by rw [upd_ne (ne_of_none ha fr)]; exact ha) upd_same (hq _ fr)
    (fun H' s' I' q => ⟨rfl, .ref _, H', I', rfl, q⟩) fun e s' he => he
/-- len of a dict, locked or not -/
theorem call_lenRd : CallR X (.builtin "len") (fun xs H Q => ∃ a kvs, xs = [V.ref a] ∧ Rd H a (.dK kvs) ∧ Q (.int kvs.length) H) := by
  rintro pins s σ H xs us Q I r ⟨a, kvs, rfl, ha, q⟩
  obtain ⟨u, rfl, ru⟩ := vals1 r
  cases ru
  exact d_len I ha fun t s' I' => ⟨.int kvs.length, H, I', ⟨t, rfl⟩, q⟩
/-- rules for what stands in a comprehension, K written -/
theorem ixTupOf {K : PySem.W.Frag} (h : X.K = K) : IxR X (rIxT K) := h ▸ ix_tup
theorem fldOf {K : PySem.W.Frag} (h : X.K = K) {e : Expr} {ta : TE} {f : Str} {pos : Pos} (he : PE X e ta) (hb : attributeBase e f X.env (eval e X.env) = eval e X.env) : PE X (.Attribute e f pos) (tFld K ta f) := h ▸ pe_fld he hb
theorem notInSeqOf {K : PySem.W.Frag} (h : X.K = K) : OpR X (compareOp .NotIn) (rIn K true) := h ▸ op_notIn_seq
end
end Own
set_option Elab.async false
set_option linter.all false
set_option maxRecDepth 100000
set_option maxHeartbeats 2000000
/-! a dict that has texts and tuples among its keys -/
namespace Own
open PySem PySem.Spec PyProof.Rows L2
/-- a key: a text; None, an int; a tuple of texts and ints -/
abbrev MK := Str ⊕ (Option Int ⊕ List L2.Key)
section
variable (P : Program) (w : World)
def mIs (h : Heap) : MK → Value → Prop
  | .inl x, v => ∃ t, v = .str x t
  | .inr (.inl none), v => v = .none
  | .inr (.inl (some i)), v => ∃ t, v = .int i t
  | .inr (.inr ks), v => ∃ a, v = .ref a ∧ (tupleKind (mixKind P w)).is h ks a
def mHash : MK → Int
  | .inl x => (mixKind P w).hash (.inr x)
  | .inr (.inl none) => 0xFCA86420
  | .inr (.inl (some i)) => (mixKind P w).hash (.inl i)
  | .inr (.inr ks) => (tupleKind (mixKind P w)).hash ks
def mDraws : MK → Nat
  | .inl _ => 1
  | .inr (.inl _) => 1
  | .inr (.inr ks) => ks.length + 1
def mEnt (x : MK × Value × Value) : DictEntry := ⟨mHash P w x.1, x.2.1, x.2.2⟩
end
section
variable {P : Program} {w : World} {A : Around} {E : Value → Shared → Prop} {s : Shared} {h : Heap}
theorem mix_str {x : Str} {t : Tok} : (mixKind P w).is (.inr x) (.str x t) = true := kV_is (k := .inr x) (u := .str x t) ⟨t, rfl⟩
theorem mix_int {x : Int} {t : Tok} : (mixKind P w).is (.inl x) (.int x t) = true := kV_is (k := .inl x) (u := .int x t) ⟨t, rfl⟩
theorem mIs_inj {x y : MK} {v : Value} (a : mIs P w h x v) (b : mIs P w h y v) : x = y := by
  rcases x with x | (_ | x) | x <;> rcases y with y | (_ | y) | y
  · obtain ⟨t, rfl⟩ := a; obtain ⟨t2, e⟩ := b; injection e with e1 _; rw [e1]
  · obtain ⟨t, rfl⟩ := a; cases b
  · obtain ⟨t, rfl⟩ := a; obtain ⟨t2, e⟩ := b; cases e
  · obtain ⟨t, rfl⟩ := a; obtain ⟨a2, e, _⟩ := b; cases e
  · cases a; obtain ⟨t2, e⟩ := b; cases e
  · rfl
  · cases a; obtain ⟨t2, e⟩ := b; cases e
  · cases a; obtain ⟨a2, e, _⟩ := b; cases e
  · obtain ⟨t, rfl⟩ := a; obtain ⟨t2, e⟩ := b; cases e
  · obtain ⟨t, rfl⟩ := a; cases b
  · obtain ⟨t, rfl⟩ := a; obtain ⟨t2, e⟩ := b; injection e with e1 _; rw [e1]
  · obtain ⟨t, rfl⟩ := a; obtain ⟨a2, e, _⟩ := b; cases e
  · obtain ⟨a1, rfl, _⟩ := a; obtain ⟨t2, e⟩ := b; cases e
  · obtain ⟨a1, rfl, _⟩ := a; cases b
  · obtain ⟨a1, rfl, _⟩ := a; obtain ⟨t2, e⟩ := b; cases e
  · obtain ⟨a1, rfl, ha⟩ := a
    obtain ⟨a2, e, hb⟩ := b
    cases e
    rw [(tupleKind (mixKind P w)).inj ha hb]
theorem mIs_keeps {h' : Heap} {k : MK} {v : Value} {d : Addr} {o : Obj} {es ep} (a : mIs P w h k v) (ho : h.get? d = some o) (hd : o.data = .dict es ep) (hs : Heap.SameBut d h h') : mIs P w h' k v := by
  rcases k with x | (_ | x) | ks
  · exact a
  · exact a
  · exact a
  · obtain ⟨b, rfl, hb⟩ := a
    exact ⟨b, rfl, (tupleKind (mixKind P w)).keeps hb ho hd hs⟩
theorem none_hash {Q : Int → Shared → Prop} (q : Q 0xFCA86420 { s with toks := s.toks + 1 }) : wpAny (model P w) A (pyHash .none) Q E s := by
  unfold pyHash
  have hv : [Value.none].any Value.onHeap = false := rfl
  refine wpAny_bind ?_
  rw [cRoomFor, if_neg (by rw [hv]; exact Bool.false_ne_true)]; refine wpAny_pure ?_
  refine wpAny_bind (wpAny_specialOf (T := "NoneType") rfl PySem.F.slot_NoneType_hash.lookup ?_)
  show wpAny _ _ (if (some (Value.builtin "NoneType.__hash__") == some Value.none) = true then _ else _) Q E s
  rw [if_neg (by rw [beq_builtin_none]; exact Bool.false_ne_true)]
  refine wpAny_bind (wpAny_specialOf (T := "NoneType") rfl PySem.F.slot_NoneType_hash.lookup ?_)
  show wpAny _ _ (callSpecialIfBoundUnlessNone? .none "__hash__" _ >>= _) Q E s
  refine wpAny_bind (wpAny_callSpecialIfBoundUnlessNone?_slot (T := "NoneType") rfl PySem.F.slot_NoneType_hash
    (wpAny_call_entry PySem.F.slot_NoneType_hash (T := "NoneType") rfl PySem.F.entry_NoneType_hash
      (show wpAny _ _ (do ret (← mkInt 0xFCA86420)) _ _ s from wpAny_ret_mkInt ?_) (PySem.F.args_NoneType_hash_1 _)))
  show wpAny _ _ (if (decide (-(2 : Int) ^ 63 ≤ 0xFCA86420) && decide ((0xFCA86420 : Int) < 2 ^ 63)) = true then _ else _) Q E _
  rw [if_pos (by decide)]
  exact wpAny_pure q
theorem m_hash {k : MK} {v : Value} {Q : Int → Shared → Prop} (hu : A.units < cLine) (hk : mIs P w s.heap k v) (q : Q (mHash P w k) { s with toks := s.toks + mDraws k }) : wpAny (model P w) A (pyHash v) Q E s := by
  rcases k with x | (_ | x) | ks
  · obtain ⟨t, rfl⟩ := hk
    exact (mixKind P w).pyHash mix_str q
  · cases hk
    exact none_hash q
  · obtain ⟨t, rfl⟩ := hk
    exact (mixKind P w).pyHash mix_int q
  · obtain ⟨b, rfl, hb⟩ := hk
    exact (tupleKind (mixKind P w)).pyHash hu hb q
theorem tup_at {ks : List L2.Key} {a : Addr} (hk : (tupleKind (mixKind P w)).is s.heap ks a) : ∃ items, s.heap.IsTuple a items := by
  obtain ⟨o, items, n, h1, h2, h3, _⟩ := (show IsTupleKey (mixKind P w) s.heap ks a from hk)
  exact ⟨items, o, h1, h2, n, h3⟩
theorem m_eq {x y : MK} {u v : Value} {Q : Bool → Shared → Prop} (hu : A.units < cLine) (hx : mIs P w s.heap x u) (hy : mIs P w s.heap y v) (q : Q (decide (x = y)) s) : wpAny (model P w) A (eqBool u v) Q E s := by
  have no : ∀ {b : Bool}, x ≠ y → b = false → Q b s := fun n e => by rw [decide_eq_false n] at q; rw [e]; exact q
  have mx : ∀ (a b : L2.Key), (mixKind P w).is a u = true → (mixKind P w).is b v = true → decide (a = b) = decide (x = y) → wpAny (model P w) A (eqBool u v) Q E s := fun a b h1 h2 e => (mixKind P w).eqBool h1 h2 (by rw [e]; exact q)
  rcases x with x | (_ | x) | x <;> rcases y with y | (_ | y) | y
  · obtain ⟨t, rfl⟩ := hx; obtain ⟨t2, rfl⟩ := hy
    exact mx (.inr x) (.inr y) mix_str mix_str (by simp)
  · obtain ⟨t, rfl⟩ := hx; cases hy
    exact SeqAt.EqAt.str_none x t P w E Q (no (fun z => nomatch z) rfl)
  · obtain ⟨t, rfl⟩ := hx; obtain ⟨t2, rfl⟩ := hy
    exact mx (.inr x) (.inl y) mix_str mix_int (by simp)
  · obtain ⟨t, rfl⟩ := hx; obtain ⟨b, rfl, hb⟩ := hy
    obtain ⟨its, hi⟩ := tup_at hb
    exact SeqAt.EqAt.str_tuple x t hi hu P w E Q (no (fun z => nomatch z) rfl)
  · cases hx; obtain ⟨t2, rfl⟩ := hy
    exact SeqAt.EqAt.none_str y t2 P w E Q (no (fun z => nomatch z) rfl)
  · cases hx; cases hy
    unfold eqBool
    refine wpAny_holding ?_
    refine wpAny_ite_split (fun _ => ?_) (fun z => absurd rfl z)
    exact wpAny_bind (wpAny_rule (wpAny_pure (by rw [decide_eq_true rfl] at q; exact q)))
  · cases hx; obtain ⟨t2, rfl⟩ := hy
    exact SeqAt.EqAt.none_int y t2 P w E Q (no (fun z => nomatch z) rfl)
  · cases hx; obtain ⟨b, rfl, hb⟩ := hy
    obtain ⟨its, hi⟩ := tup_at hb
    exact SeqAt.EqAt.none_tuple hi hu P w E Q (no (fun z => nomatch z) rfl)
  · obtain ⟨t, rfl⟩ := hx; obtain ⟨t2, rfl⟩ := hy
    exact mx (.inl x) (.inr y) mix_int mix_str (by simp)
  · obtain ⟨t, rfl⟩ := hx; cases hy
    exact SeqAt.EqAt.int_none x t P w E Q (no (fun z => nomatch z) rfl)
  · obtain ⟨t, rfl⟩ := hx; obtain ⟨t2, rfl⟩ := hy
    exact mx (.inl x) (.inl y) mix_int mix_int (by simp)
  · obtain ⟨t, rfl⟩ := hx; obtain ⟨b, rfl, hb⟩ := hy
    obtain ⟨its, hi⟩ := tup_at hb
    exact SeqAt.EqAt.int_tuple x t hi hu P w E Q (no (fun z => nomatch z) rfl)
  · obtain ⟨a, rfl, ha⟩ := hx; obtain ⟨t2, rfl⟩ := hy
    obtain ⟨its, hi⟩ := tup_at ha
    exact SeqAt.EqAt.tuple_str y t2 hi hu P w E Q (no (fun z => nomatch z) rfl)
  · obtain ⟨a, rfl, ha⟩ := hx; cases hy
    obtain ⟨its, hi⟩ := tup_at ha
    exact SeqAt.EqAt.tuple_none hi hu P w E Q (no (fun z => nomatch z) rfl)
  · obtain ⟨a, rfl, ha⟩ := hx; obtain ⟨t2, rfl⟩ := hy
    obtain ⟨its, hi⟩ := tup_at ha
    exact SeqAt.EqAt.tuple_int y t2 hi hu P w E Q (no (fun z => nomatch z) rfl)
  · obtain ⟨a, rfl, ha⟩ := hx; obtain ⟨b, rfl, hb⟩ := hy
    refine (tupleKind (mixKind P w)).eqBool hu ha hb ?_
    have e : decide (x = y) = decide ((Sum.inr (Sum.inr x) : MK) = .inr (.inr y)) := by simp
    rw [e]; exact q
theorem m_quiet {k : MK} {v : Value} {Q : Bool → Shared → Prop} (hk : mIs P w s.heap k v) (q : Q true s) : wpAny (model P w) A (eqIsQuiet 8 v) Q E s := by
  rcases k with x | (_ | x) | ks
  · obtain ⟨t, rfl⟩ := hk
    exact wpAny_pure q
  · cases hk
    exact wpAny_pure q
  · obtain ⟨t, rfl⟩ := hk
    exact wpAny_pure q
  · obtain ⟨b, rfl, hb⟩ := hk
    exact (tupleKind (mixKind P w)).quiet hb q
theorem m_tell {k : MK} {key : Value} {stored : List Value} {Q : Bool → Shared → Prop} (hkey : mIs P w s.heap k key) (hst : ∀ v ∈ stored, ∃ k', mIs P w s.heap k' v) (q : Q false s) : wpAny (model P w) A (tableMayTell key stored) Q E s := by
  unfold tableMayTell
  split
  · exact wpAny_pure q
  · refine wpAny_bind (m_quiet hkey ?_)
    simp only [Bool.not_true, Bool.false_eq_true, if_false]
    refine wpAny_bind ?_
    refine wpAny_forIn_list _ (fun rest r s' => s' = s ∧ r = (none, ()) ∧ ∀ v ∈ rest, ∃ k', mIs P w s.heap k' v) _ ?_ ?_ _ _ ⟨rfl, rfl, hst⟩
    · rintro x rest r s' ⟨rfl, rfl, hr⟩
      obtain ⟨k', hb⟩ := hr x List.mem_cons_self
      refine wpAny_bind (m_quiet hb ?_)
      simp only [Bool.not_true, Bool.false_eq_true, if_false]
      exact wpAny_pure ⟨rfl, rfl, fun v hv => hr v (List.mem_cons_of_mem _ hv)⟩
    · rintro r s' ⟨rfl, rfl, _⟩
      exact wpAny_pure q
/-! ### the entries -/
theorem ent_at {es : Array DictEntry} {xs : List (MK × Value × Value)} (he : es.toList = xs.map (mEnt P w)) (j : Nat) : es[j]? = (xs[j]?).map (mEnt P w) := by
  rw [← Array.getElem?_toList, he, List.getElem?_map]
theorem ent_size {es : Array DictEntry} {xs : List (MK × Value × Value)} (he : es.toList = xs.map (mEnt P w)) : es.size = xs.length := by
  rw [← Array.length_toList, he, List.length_map]
theorem ent_uniq {xs : List (MK × Value × Value)} (hn : (xs.map (·.1)).Nodup) {i j : Nat} {k : MK} {p q : Value × Value} (hi : xs[i]? = some (k, p)) (hj : xs[j]? = some (k, q)) : i = j := by
  have e1 : (xs.map (·.1))[i]? = some k := by rw [List.getElem?_map, hi]; rfl
  have e2 : (xs.map (·.1))[j]? = some k := by rw [List.getElem?_map, hj]; rfl
  obtain ⟨h1, z1⟩ := List.getElem?_eq_some_iff.mp e1
  obtain ⟨h2, z2⟩ := List.getElem?_eq_some_iff.mp e2
  exact (List.getElem_inj hn).mp (z1.trans z2.symm)
theorem ent_mem {es : Array DictEntry} {xs : List (MK × Value × Value)} (he : es.toList = xs.map (mEnt P w)) {e : DictEntry} (m : e ∈ es) : ∃ x ∈ xs, mEnt P w x = e := by
  have : e ∈ xs.map (mEnt P w) := he ▸ Array.mem_toList_iff.mpr m
  exact List.mem_map.mp this
/-- all texts: the library's own way -/
theorem find_strs {d : Addr} {o : Obj} {es ep} {xs : List (MK × Value × Value)} {x : Str} {t : Tok} {Q : Option Nat → Shared → Prop} (ho : s.heap.get? d = some o) (hd : o.data = .dict es ep) (he : es.toList = xs.map (mEnt P w)) (his : ∀ y ∈ xs, mIs P w s.heap y.1 y.2.1) (hs : ∀ y ∈ xs, ∃ z, y.1 = .inl z)
    (hnone : (∀ (j : Nat) (p : Value × Value), xs[j]? ≠ some (.inl x, p)) → Q none s) (hsome : ∀ (j : Nat) (p : Value × Value), xs[j]? = some (.inl x, p) → Q (some j) s) :
    wpAny (model P w) A (dictFind d (.str x t) (mHash P w (.inl x))) Q E s := by
  refine wpAny_dictFind_of (knd := mixKind P w) (k := .inr x) mix_str ho hd (fun e m => ?_) ?_
  · obtain ⟨y, hy, rfl⟩ := ent_mem he m
    obtain ⟨z, ez⟩ := hs y hy
    obtain ⟨k, v, u⟩ := y
    cases ez
    obtain ⟨t2, e2⟩ := his _ hy
    exact ⟨.inr z, by show (mixKind P w).is (.inr z) v = true; rw [show v = .str z t2 from e2]; exact mix_str, rfl⟩
  · have at_ : ∀ (j : Nat) (hj : j < es.size), ((mixKind P w).is (.inr x) es[j].key = true ↔ ∃ p, xs[j]? = some (.inl x, p)) := fun j hj => by
      have e1 := ent_at he j
      have hj2 : j < xs.length := by rw [← ent_size he]; exact hj
      rw [Array.getElem?_eq_getElem hj, List.getElem?_eq_getElem hj2] at e1
      have e2 : es[j] = mEnt P w xs[j] := Option.some.inj e1
      obtain ⟨z, ez⟩ := hs _ (List.getElem_mem hj2)
      obtain ⟨t2, e3⟩ := (show mIs P w s.heap (.inl z) xs[j].2.1 from ez ▸ his _ (List.getElem_mem hj2))
      rw [e2, List.getElem?_eq_getElem hj2]
      constructor
      · intro q
        have q2 : (mixKind P w).is (.inr x) (.str z t2) = true := by rw [← e3]; exact q
        have := (mixKind P w).inj _ _ _ q2 (mix_str (x := z) (t := t2))
        cases this
        exact ⟨xs[j].2, by rw [← ez]⟩
      · rintro ⟨p, q⟩
        have q3 : xs[j] = (.inl x, p) := Option.some.inj q
        have : z = x := by rw [q3] at ez; cases ez; rfl
        subst this
        show (mixKind P w).is (.inr z) xs[j].2.1 = true
        rw [e3]; exact mix_str
    cases hf : es.findIdx? (fun e => (mixKind P w).is (.inr x) e.key) with
    | none =>
      refine hnone fun j p hj => ?_
      have hj1 : j < es.size := by rw [ent_size he]; exact (List.getElem?_eq_some_iff.mp hj).1
      have := Array.findIdx?_eq_none_iff.mp hf es[j] (Array.getElem_mem hj1)
      rw [(at_ j hj1).mpr ⟨p, hj⟩] at this
      cases this
    | some i =>
      obtain ⟨hlt, hi, _⟩ := Array.findIdx?_eq_some_iff_getElem.mp hf
      obtain ⟨p, hp⟩ := (at_ i hlt).mp hi
      exact hsome i p hp
/-- where a lookup stands -/
def Hit (xs : List (MK × Value × Value)) (k : MK) (i : Nat) (hit : Option Nat) : Prop := (hit = none ∧ ∀ j p, j < i → xs[j]? ≠ some (k, p)) ∨ ∃ j p, hit = some j ∧ j < i ∧ xs[j]? = some (k, p)
theorem Hit.fresh {xs : List (MK × Value × Value)} {k : MK} {i : Nat} {hit : Option Nat} {p : Value × Value} (h : Hit xs k i hit) (hn : (xs.map (·.1)).Nodup) (hi : xs[i]? = some (k, p)) : hit = none := by
  rcases h with ⟨e, _⟩ | ⟨j, q, _, hj, e⟩
  · exact e
  · have := ent_uniq hn e hi
    omega
theorem Hit.pass {xs : List (MK × Value × Value)} {k k' : MK} {i : Nat} {hit : Option Nat} {p : Value × Value} (h : Hit xs k i hit) (hi : xs[i]? = some (k', p)) (ne : ¬ k' = k) : Hit xs k (i + 1) hit := by
  rcases h with ⟨e, hno⟩ | ⟨j, q, e, hj, e2⟩
  · refine .inl ⟨e, fun j q hj e2 => ?_⟩
    rcases Nat.lt_or_ge j i with lt | ge
    · exact hno j q lt e2
    · have : j = i := by omega
      subst this
      rw [hi] at e2
      exact ne (congrArg Prod.fst (Option.some.inj e2))
  · exact .inr ⟨j, q, e, by omega, e2⟩
theorem walk_step {es : Array DictEntry} {xs : List (MK × Value × Value)} {k : MK} {y : Nat} {rest : List Nat} {i : Nat} {hit : Option Nat} (he : es.toList = xs.map (mEnt P w)) (haskey : ∀ (j : Nat) (p : Value × Value), xs[j]? = some (k, p) → ((es[j]?.map (·.hash)) == some (mHash P w k)) = true)
    (hr : y :: rest = (List.range' i (es.size - i)).filter (fun i => (es[i]?.map (·.hash)) == some (mHash P w k))) (hi : i ≤ es.size) (hH : Hit xs k i hit) :
    y < es.size ∧ rest = (List.range' (y + 1) (es.size - (y + 1))).filter (fun i => (es[i]?.map (·.hash)) == some (mHash P w k)) ∧ ∃ (k' : MK) (v u : Value), xs[y]? = some (k', v, u) ∧ es[y]? = some ⟨mHash P w k', v, u⟩ ∧ Hit xs k y hit := by
  obtain ⟨hix, hxn, hpx, hskip, hrest⟩ := filter_range'_cons _ _ _ _ _ hr.symm
  have hlt : y < es.size := by omega
  have hlx : y < xs.length := by rw [← ent_size he]; exact hlt
  refine ⟨hlt, by rw [hrest]; congr 2; omega, xs[y].1, xs[y].2.1, xs[y].2.2, List.getElem?_eq_getElem hlx, ?_, ?_⟩
  · rw [ent_at he y, List.getElem?_eq_getElem hlx]; rfl
  · rcases hH with ⟨e, hno⟩ | ⟨j, q, e, hj, e2⟩
    · refine .inl ⟨e, fun j q hj e2 => ?_⟩
      rcases Nat.lt_or_ge j i with lt | ge
      · exact hno j q lt e2
      · have := hskip j ge hj
        rw [haskey j q e2] at this
        cases this
    · exact .inr ⟨j, q, e, by omega, e2⟩
theorem walk_end {es : Array DictEntry} {xs : List (MK × Value × Value)} {k : MK} {i : Nat} {hit : Option Nat} (he : es.toList = xs.map (mEnt P w)) (haskey : ∀ (j : Nat) (p : Value × Value), xs[j]? = some (k, p) → ((es[j]?.map (·.hash)) == some (mHash P w k)) = true)
    (hr : [] = (List.range' i (es.size - i)).filter (fun i => (es[i]?.map (·.hash)) == some (mHash P w k))) (hi : i ≤ es.size) (hH : Hit xs k i hit) :
    (hit = none ∧ ∀ (j : Nat) (p : Value × Value), xs[j]? ≠ some (k, p)) ∨ ∃ j p, hit = some j ∧ xs[j]? = some (k, p) := by
  rcases hH with ⟨e, hno⟩ | ⟨j, q, e, _, e2⟩
  · refine .inl ⟨e, fun j p hj => ?_⟩
    rcases Nat.lt_or_ge j i with lt | ge
    · exact hno j p lt hj
    · have hj1 : j < es.size := by rw [ent_size he]; exact (List.getElem?_eq_some_iff.mp hj).1
      have := List.filter_eq_nil_iff.mp hr.symm j (List.mem_range'_1.mpr ⟨ge, by omega⟩)
      rw [haskey j p hj] at this
      exact this rfl
  · exact .inr ⟨j, q, e, e2⟩
theorem m_find {d : Addr} {o : Obj} {es ep} {xs : List (MK × Value × Value)} {k : MK} {key : Value} {Q : Option Nat → Shared → Prop} (hu : A.units < cLine) (hkey : mIs P w s.heap k key) (ho : s.heap.get? d = some o) (hd : o.data = .dict es ep) (he : es.toList = xs.map (mEnt P w)) (his : ∀ y ∈ xs, mIs P w s.heap y.1 y.2.1) (hn : (xs.map (·.1)).Nodup)
    (hnone : (∀ (j : Nat) (p : Value × Value), xs[j]? ≠ some (k, p)) → Q none s) (hsome : ∀ (j : Nat) (p : Value × Value), xs[j]? = some (k, p) → Q (some j) s) :
    wpAny (model P w) A (dictFind d key (mHash P w k)) Q E s := by
  have hsz : es.size = xs.length := ent_size he
  have haskey : ∀ (j : Nat) (p : Value × Value), xs[j]? = some (k, p) → ((es[j]?.map (·.hash)) == some (mHash P w k)) = true := by
    intro j p hj
    rw [ent_at he j, hj]
    simp [mEnt]
  have hst : ∀ v ∈ (placesWithHash es.size (fun i => es[i]?.map (·.hash)) (mHash P w k)).filterMap (fun i => es[i]?.map (·.key)), ∃ k', mIs P w s.heap k' v := by
    intro v hv
    obtain ⟨i, _, hi⟩ := List.mem_filterMap.mp hv
    cases hei : es[i]? with
    | none => rw [hei] at hi; cases hi
    | some e =>
      rw [hei] at hi
      obtain rfl : e.key = v := by simpa using hi
      obtain ⟨x, hx, rfl⟩ := ent_mem he (Array.mem_of_getElem? hei)
      exact ⟨x.1, his x hx⟩
  rcases k with x | (_ | x) | ks
  · skip
    obtain ⟨t, rfl⟩ := id hkey
    by_cases hall : ∀ y ∈ xs, ∃ z, y.1 = .inl z
    · exact find_strs ho hd he his hall hnone hsome
    · have hns : ¬ (es.all fun e => isExactStrKey e.key) = true := fun z => hall fun y hy => by
        have m : mEnt P w y ∈ es := Array.mem_toList_iff.mp (he ▸ List.mem_map.mpr ⟨y, hy, rfl⟩)
        have q := Array.all_eq_true_iff_forall_mem.mp z _ m
        obtain ⟨k, v, u⟩ := y
        rcases k with z | (_ | z) | ks
        · exact ⟨z, rfl⟩
        · have e : v = .none := his _ hy
          subst e
          cases q
        · obtain ⟨t2, e⟩ := (show mIs P w s.heap (.inr (.inl (some z))) v from his _ hy)
          subst e
          cases q
        · obtain ⟨a, e, _⟩ := (show mIs P w s.heap (.inr (.inr ks)) v from his _ hy)
          subst e
          cases q
      unfold dictFind
      try with_reducible refine wpAny_holding ?_
      refine wpAny_bind (wpAny_dictEntries ho hd ?_)
      dsimp only
      rw [if_neg hns]
      by_cases hv : ((Value.str x t :: (placesWithHash es.size (fun i => es[i]?.map (·.hash)) (mHash P w (.inl x))).filterMap (fun i => es[i]?.map (·.key))).all carriedByValue) = true
      · rw [if_pos hv]
        refine wpAny_bind ?_
        refine wpAny_forIn_list _
          (fun rest b s' => s' = s ∧ b = (none, ()) ∧ ∃ i, rest = (List.range' i (es.size - i)).filter (fun i => (es[i]?.map (·.hash)) == some (mHash P w (.inl x))) ∧ i ≤ es.size ∧ Hit xs (.inl x) i none) _ ?_ ?_ _ _
          ⟨rfl, rfl, 0, by rw [placesWithHash, List.range_eq_range', Nat.sub_zero], Nat.zero_le _, .inl ⟨rfl, fun _ _ z => absurd z (Nat.not_lt_zero _)⟩⟩
        · rintro y rest b s' ⟨rfl, rfl, i, hr, hi, hH⟩
          obtain ⟨hlt, hr2, k', v', u', hkv, hex, hHy⟩ := walk_step he haskey hr hi hH
          have hib : mIs P w s'.heap k' v' := his _ (List.mem_of_getElem? hkv)
          rw [hex]
          dsimp only
          by_cases hh : (mHash P w k' == mHash P w (.inl x)) = true
          · rw [if_pos hh]
            refine wpAny_bind (wpAny_dictEpoch ho hd (wpAny_bind (m_eq (x := k') (y := .inl x) hu hib hkey (wpAny_bind (wpAny_dictEpoch ho hd ?_)))))
            show wpAny _ _ (if (ep != ep) = true then _ else _) _ E _
            rw [if_neg (by simp)]
            by_cases hkk : k' = .inl x
            · rw [decide_eq_true hkk]
              subst hkk
              exact wpAny_bind (wpAny_rule (wpAny_pure (wpAny_pure (hsome y _ hkv))))
            · rw [decide_eq_false hkk]
              exact wpAny_bind (wpAny_rule (wpAny_pure ⟨rfl, rfl, y + 1, hr2, hlt, hHy.pass hkv hkk⟩))
          · rw [if_neg hh]
            refine wpAny_pure ⟨rfl, rfl, y + 1, hr2, hlt, hHy.pass hkv ?_⟩
            intro hkk
            rw [hkk] at hh; simp at hh
        · rintro b s' ⟨rfl, rfl, i, hr, hi, hH⟩
          rcases walk_end he haskey hr hi hH with ⟨_, hno⟩ | ⟨j, p, e, hj⟩
          · exact wpAny_pure (hnone hno)
          · cases e
      · rw [if_neg hv]
        by_cases hone : (((placesWithHash es.size (fun i => es[i]?.map (·.hash)) (mHash P w (.inl x))).filterMap (fun i => es[i]?.map (·.key))) == [Value.str x t]) = true
        · rw [if_pos hone]
          refine wpAny_bind (wpAny_pure ?_)
          rw [if_neg (by simp)]
          refine wpAny_bind ?_
          refine wpAny_forIn_list _
            (fun rest b s' => s' = s ∧ ∃ i hit, b = (none, hit) ∧ rest = (List.range' i (es.size - i)).filter (fun i => (es[i]?.map (·.hash)) == some (mHash P w (.inl x))) ∧ i ≤ es.size ∧ Hit xs (.inl x) i hit) _ ?_ ?_ _ _
            ⟨rfl, 0, none, rfl, by rw [placesWithHash, List.range_eq_range', Nat.sub_zero], Nat.zero_le _, .inl ⟨rfl, fun _ _ z => absurd z (Nat.not_lt_zero _)⟩⟩
          · rintro y rest b s' ⟨rfl, i, hit, rfl, hr, hi, hH⟩
            obtain ⟨hlt, hr2, k', v', u', hkv, hex, hHy⟩ := walk_step he haskey hr hi hH
            have hib : mIs P w s'.heap k' v' := his _ (List.mem_of_getElem? hkv)
            rw [hex]
            dsimp only
            by_cases hh : (mHash P w k' == mHash P w (.inl x)) = true
            · rw [if_pos hh]
              refine wpAny_bind (wpAny_dictEpoch ho hd (wpAny_bind (m_eq (x := k') (y := .inl x) hu hib hkey (wpAny_bind (wpAny_dictEpoch ho hd ?_)))))
              show wpAny _ _ (if (ep != ep) = true then _ else _) _ E _
              rw [if_neg (by simp)]
              by_cases hkk : k' = .inl x
              · rw [decide_eq_true hkk]
                subst hkk
                have hno := hHy.fresh hn hkv
                subst hno
                first | rw [if_pos rfl] | skip
                simp only [Option.isSome_none, Bool.false_eq_true, if_false]
                first | refine wpAny_bind (wpAny_pure ?_) | skip
                refine wpAny_bind (wpAny_rule ?_)
                split
                · exact wpAny_pure (wpAny_pure (hsome y _ hkv))
                · exact wpAny_pure ⟨rfl, y + 1, some y, rfl, hr2, hlt, .inr ⟨y, _, rfl, Nat.lt_succ_self y, hkv⟩⟩
              · rw [decide_eq_false hkk]
                simp only [Bool.false_eq_true, if_false]
                refine wpAny_bind (wpAny_rule ?_)
                first | rw [if_neg (by simp)] | skip
                first
                  | exact wpAny_pure ⟨rfl, y + 1, hit, rfl, hr2, hlt, hHy.pass hkv hkk⟩
                  | exact wpAny_bind (wpAny_pure (wpAny_pure ⟨rfl, y + 1, hit, rfl, hr2, hlt, hHy.pass hkv hkk⟩))
            · rw [if_neg hh]
              refine wpAny_pure ⟨rfl, y + 1, hit, rfl, hr2, hlt, hHy.pass hkv ?_⟩
              intro hkk
              rw [hkk] at hh; simp at hh
          · rintro b s' ⟨rfl, i, hit, rfl, hr, hi, hH⟩
            rcases walk_end he haskey hr hi hH with ⟨rfl, hno⟩ | ⟨j, p, rfl, hj⟩
            · exact wpAny_pure (hnone hno)
            · exact wpAny_pure (hsome j p hj)
        · rw [if_neg hone]
          refine wpAny_bind (m_tell hkey hst ?_)
          rw [if_neg (by simp)]
          refine wpAny_bind ?_
          refine wpAny_forIn_list _
            (fun rest b s' => s' = s ∧ ∃ i hit, b = (none, hit) ∧ rest = (List.range' i (es.size - i)).filter (fun i => (es[i]?.map (·.hash)) == some (mHash P w (.inl x))) ∧ i ≤ es.size ∧ Hit xs (.inl x) i hit) _ ?_ ?_ _ _
            ⟨rfl, 0, none, rfl, by rw [placesWithHash, List.range_eq_range', Nat.sub_zero], Nat.zero_le _, .inl ⟨rfl, fun _ _ z => absurd z (Nat.not_lt_zero _)⟩⟩
          · rintro y rest b s' ⟨rfl, i, hit, rfl, hr, hi, hH⟩
            obtain ⟨hlt, hr2, k', v', u', hkv, hex, hHy⟩ := walk_step he haskey hr hi hH
            have hib : mIs P w s'.heap k' v' := his _ (List.mem_of_getElem? hkv)
            rw [hex]
            dsimp only
            by_cases hh : (mHash P w k' == mHash P w (.inl x)) = true
            · rw [if_pos hh]
              refine wpAny_bind (wpAny_dictEpoch ho hd (wpAny_bind (m_eq (x := k') (y := .inl x) hu hib hkey (wpAny_bind (wpAny_dictEpoch ho hd ?_)))))
              show wpAny _ _ (if (ep != ep) = true then _ else _) _ E _
              rw [if_neg (by simp)]
              by_cases hkk : k' = .inl x
              · rw [decide_eq_true hkk]
                subst hkk
                have hno := hHy.fresh hn hkv
                subst hno
                first | rw [if_pos rfl] | skip
                simp only [Option.isSome_none, Bool.false_eq_true, if_false]
                first | refine wpAny_bind (wpAny_pure ?_) | skip
                refine wpAny_bind (wpAny_rule ?_)
                split
                · exact wpAny_pure (wpAny_pure (hsome y _ hkv))
                · exact wpAny_pure ⟨rfl, y + 1, some y, rfl, hr2, hlt, .inr ⟨y, _, rfl, Nat.lt_succ_self y, hkv⟩⟩
              · rw [decide_eq_false hkk]
                simp only [Bool.false_eq_true, if_false]
                refine wpAny_bind (wpAny_rule ?_)
                first | rw [if_neg (by simp)] | skip
                first
                  | exact wpAny_pure ⟨rfl, y + 1, hit, rfl, hr2, hlt, hHy.pass hkv hkk⟩
                  | exact wpAny_bind (wpAny_pure (wpAny_pure ⟨rfl, y + 1, hit, rfl, hr2, hlt, hHy.pass hkv hkk⟩))
            · rw [if_neg hh]
              refine wpAny_pure ⟨rfl, y + 1, hit, rfl, hr2, hlt, hHy.pass hkv ?_⟩
              intro hkk
              rw [hkk] at hh; simp at hh
          · rintro b s' ⟨rfl, i, hit, rfl, hr, hi, hH⟩
            rcases walk_end he haskey hr hi hH with ⟨rfl, hno⟩ | ⟨j, p, rfl, hj⟩
            · exact wpAny_pure (hnone hno)
            · exact wpAny_pure (hsome j p hj)
  · have ek : key = .none := hkey
    subst ek
    unfold dictFind
    try with_reducible refine wpAny_holding ?_
    refine wpAny_bind (wpAny_dictEntries ho hd ?_)
    dsimp only
    by_cases hv : ((Value.none :: (placesWithHash es.size (fun i => es[i]?.map (·.hash)) (mHash P w (.inr (.inl none)))).filterMap (fun i => es[i]?.map (·.key))).all carriedByValue) = true
    · rw [if_pos hv]
      refine wpAny_bind ?_
      refine wpAny_forIn_list _
        (fun rest b s' => s' = s ∧ b = (none, ()) ∧ ∃ i, rest = (List.range' i (es.size - i)).filter (fun i => (es[i]?.map (·.hash)) == some (mHash P w (.inr (.inl none)))) ∧ i ≤ es.size ∧ Hit xs (.inr (.inl none)) i none) _ ?_ ?_ _ _
        ⟨rfl, rfl, 0, by rw [placesWithHash, List.range_eq_range', Nat.sub_zero], Nat.zero_le _, .inl ⟨rfl, fun _ _ z => absurd z (Nat.not_lt_zero _)⟩⟩
      · rintro y rest b s' ⟨rfl, rfl, i, hr, hi, hH⟩
        obtain ⟨hlt, hr2, k', v', u', hkv, hex, hHy⟩ := walk_step he haskey hr hi hH
        have hib : mIs P w s'.heap k' v' := his _ (List.mem_of_getElem? hkv)
        rw [hex]
        dsimp only
        by_cases hh : (mHash P w k' == mHash P w (.inr (.inl none))) = true
        · rw [if_pos hh]
          refine wpAny_bind (wpAny_dictEpoch ho hd (wpAny_bind (m_eq (x := k') (y := (.inr (.inl none))) hu hib hkey (wpAny_bind (wpAny_dictEpoch ho hd ?_)))))
          show wpAny _ _ (if (ep != ep) = true then _ else _) _ E _
          rw [if_neg (by simp)]
          by_cases hkk : k' = (.inr (.inl none))
          · rw [decide_eq_true hkk]
            subst hkk
            exact wpAny_bind (wpAny_rule (wpAny_pure (wpAny_pure (hsome y _ hkv))))
          · rw [decide_eq_false hkk]
            exact wpAny_bind (wpAny_rule (wpAny_pure ⟨rfl, rfl, y + 1, hr2, hlt, hHy.pass hkv hkk⟩))
        · rw [if_neg hh]
          refine wpAny_pure ⟨rfl, rfl, y + 1, hr2, hlt, hHy.pass hkv ?_⟩
          intro hkk
          rw [hkk] at hh; simp at hh
      · rintro b s' ⟨rfl, rfl, i, hr, hi, hH⟩
        rcases walk_end he haskey hr hi hH with ⟨_, hno⟩ | ⟨j, p, e, hj⟩
        · exact wpAny_pure (hnone hno)
        · cases e
    · rw [if_neg hv]
      by_cases hone : (((placesWithHash es.size (fun i => es[i]?.map (·.hash)) (mHash P w (.inr (.inl none)))).filterMap (fun i => es[i]?.map (·.key))) == [Value.none]) = true
      · rw [if_pos hone]
        refine wpAny_bind (wpAny_pure ?_)
        rw [if_neg (by simp)]
        refine wpAny_bind ?_
        refine wpAny_forIn_list _
          (fun rest b s' => s' = s ∧ ∃ i hit, b = (none, hit) ∧ rest = (List.range' i (es.size - i)).filter (fun i => (es[i]?.map (·.hash)) == some (mHash P w (.inr (.inl none)))) ∧ i ≤ es.size ∧ Hit xs (.inr (.inl none)) i hit) _ ?_ ?_ _ _
          ⟨rfl, 0, none, rfl, by rw [placesWithHash, List.range_eq_range', Nat.sub_zero], Nat.zero_le _, .inl ⟨rfl, fun _ _ z => absurd z (Nat.not_lt_zero _)⟩⟩
        · rintro y rest b s' ⟨rfl, i, hit, rfl, hr, hi, hH⟩
          obtain ⟨hlt, hr2, k', v', u', hkv, hex, hHy⟩ := walk_step he haskey hr hi hH
          have hib : mIs P w s'.heap k' v' := his _ (List.mem_of_getElem? hkv)
          rw [hex]
          dsimp only
          by_cases hh : (mHash P w k' == mHash P w (.inr (.inl none))) = true
          · rw [if_pos hh]
            refine wpAny_bind (wpAny_dictEpoch ho hd (wpAny_bind (m_eq (x := k') (y := (.inr (.inl none))) hu hib hkey (wpAny_bind (wpAny_dictEpoch ho hd ?_)))))
            show wpAny _ _ (if (ep != ep) = true then _ else _) _ E _
            rw [if_neg (by simp)]
            by_cases hkk : k' = (.inr (.inl none))
            · rw [decide_eq_true hkk]
              subst hkk
              have hno := hHy.fresh hn hkv
              subst hno
              first | rw [if_pos rfl] | skip
              simp only [Option.isSome_none, Bool.false_eq_true, if_false]
              first | refine wpAny_bind (wpAny_pure ?_) | skip
              refine wpAny_bind (wpAny_rule ?_)
              split
              · exact wpAny_pure (wpAny_pure (hsome y _ hkv))
              · exact wpAny_pure ⟨rfl, y + 1, some y, rfl, hr2, hlt, .inr ⟨y, _, rfl, Nat.lt_succ_self y, hkv⟩⟩
            · rw [decide_eq_false hkk]
              simp only [Bool.false_eq_true, if_false]
              refine wpAny_bind (wpAny_rule ?_)
              first | rw [if_neg (by simp)] | skip
              first
                | exact wpAny_pure ⟨rfl, y + 1, hit, rfl, hr2, hlt, hHy.pass hkv hkk⟩
                | exact wpAny_bind (wpAny_pure (wpAny_pure ⟨rfl, y + 1, hit, rfl, hr2, hlt, hHy.pass hkv hkk⟩))
          · rw [if_neg hh]
            refine wpAny_pure ⟨rfl, y + 1, hit, rfl, hr2, hlt, hHy.pass hkv ?_⟩
            intro hkk
            rw [hkk] at hh; simp at hh
        · rintro b s' ⟨rfl, i, hit, rfl, hr, hi, hH⟩
          rcases walk_end he haskey hr hi hH with ⟨rfl, hno⟩ | ⟨j, p, rfl, hj⟩
          · exact wpAny_pure (hnone hno)
          · exact wpAny_pure (hsome j p hj)
      · rw [if_neg hone]
        refine wpAny_bind (m_tell hkey hst ?_)
        rw [if_neg (by simp)]
        refine wpAny_bind ?_
        refine wpAny_forIn_list _
          (fun rest b s' => s' = s ∧ ∃ i hit, b = (none, hit) ∧ rest = (List.range' i (es.size - i)).filter (fun i => (es[i]?.map (·.hash)) == some (mHash P w (.inr (.inl none)))) ∧ i ≤ es.size ∧ Hit xs (.inr (.inl none)) i hit) _ ?_ ?_ _ _
          ⟨rfl, 0, none, rfl, by rw [placesWithHash, List.range_eq_range', Nat.sub_zero], Nat.zero_le _, .inl ⟨rfl, fun _ _ z => absurd z (Nat.not_lt_zero _)⟩⟩
        · rintro y rest b s' ⟨rfl, i, hit, rfl, hr, hi, hH⟩
          obtain ⟨hlt, hr2, k', v', u', hkv, hex, hHy⟩ := walk_step he haskey hr hi hH
          have hib : mIs P w s'.heap k' v' := his _ (List.mem_of_getElem? hkv)
          rw [hex]
          dsimp only
          by_cases hh : (mHash P w k' == mHash P w (.inr (.inl none))) = true
          · rw [if_pos hh]
            refine wpAny_bind (wpAny_dictEpoch ho hd (wpAny_bind (m_eq (x := k') (y := (.inr (.inl none))) hu hib hkey (wpAny_bind (wpAny_dictEpoch ho hd ?_)))))
            show wpAny _ _ (if (ep != ep) = true then _ else _) _ E _
            rw [if_neg (by simp)]
            by_cases hkk : k' = (.inr (.inl none))
            · rw [decide_eq_true hkk]
              subst hkk
              have hno := hHy.fresh hn hkv
              subst hno
              first | rw [if_pos rfl] | skip
              simp only [Option.isSome_none, Bool.false_eq_true, if_false]
              first | refine wpAny_bind (wpAny_pure ?_) | skip
              refine wpAny_bind (wpAny_rule ?_)
              split
              · exact wpAny_pure (wpAny_pure (hsome y _ hkv))
              · exact wpAny_pure ⟨rfl, y + 1, some y, rfl, hr2, hlt, .inr ⟨y, _, rfl, Nat.lt_succ_self y, hkv⟩⟩
            · rw [decide_eq_false hkk]
              simp only [Bool.false_eq_true, if_false]
              refine wpAny_bind (wpAny_rule ?_)
              first | rw [if_neg (by simp)] | skip
              first
                | exact wpAny_pure ⟨rfl, y + 1, hit, rfl, hr2, hlt, hHy.pass hkv hkk⟩
                | exact wpAny_bind (wpAny_pure (wpAny_pure ⟨rfl, y + 1, hit, rfl, hr2, hlt, hHy.pass hkv hkk⟩))
          · rw [if_neg hh]
            refine wpAny_pure ⟨rfl, y + 1, hit, rfl, hr2, hlt, hHy.pass hkv ?_⟩
            intro hkk
            rw [hkk] at hh; simp at hh
        · rintro b s' ⟨rfl, i, hit, rfl, hr, hi, hH⟩
          rcases walk_end he haskey hr hi hH with ⟨rfl, hno⟩ | ⟨j, p, rfl, hj⟩
          · exact wpAny_pure (hnone hno)
          · exact wpAny_pure (hsome j p hj)
  · obtain ⟨t, rfl⟩ := id hkey
    unfold dictFind
    try with_reducible refine wpAny_holding ?_
    refine wpAny_bind (wpAny_dictEntries ho hd ?_)
    dsimp only
    by_cases hv : ((Value.int x t :: (placesWithHash es.size (fun i => es[i]?.map (·.hash)) (mHash P w (.inr (.inl (some x))))).filterMap (fun i => es[i]?.map (·.key))).all carriedByValue) = true
    · rw [if_pos hv]
      refine wpAny_bind ?_
      refine wpAny_forIn_list _
        (fun rest b s' => s' = s ∧ b = (none, ()) ∧ ∃ i, rest = (List.range' i (es.size - i)).filter (fun i => (es[i]?.map (·.hash)) == some (mHash P w (.inr (.inl (some x))))) ∧ i ≤ es.size ∧ Hit xs (.inr (.inl (some x))) i none) _ ?_ ?_ _ _
        ⟨rfl, rfl, 0, by rw [placesWithHash, List.range_eq_range', Nat.sub_zero], Nat.zero_le _, .inl ⟨rfl, fun _ _ z => absurd z (Nat.not_lt_zero _)⟩⟩
      · rintro y rest b s' ⟨rfl, rfl, i, hr, hi, hH⟩
        obtain ⟨hlt, hr2, k', v', u', hkv, hex, hHy⟩ := walk_step he haskey hr hi hH
        have hib : mIs P w s'.heap k' v' := his _ (List.mem_of_getElem? hkv)
        rw [hex]
        dsimp only
        by_cases hh : (mHash P w k' == mHash P w (.inr (.inl (some x)))) = true
        · rw [if_pos hh]
          refine wpAny_bind (wpAny_dictEpoch ho hd (wpAny_bind (m_eq (x := k') (y := (.inr (.inl (some x)))) hu hib hkey (wpAny_bind (wpAny_dictEpoch ho hd ?_)))))
          show wpAny _ _ (if (ep != ep) = true then _ else _) _ E _
          rw [if_neg (by simp)]
          by_cases hkk : k' = (.inr (.inl (some x)))
          · rw [decide_eq_true hkk]
            subst hkk
            exact wpAny_bind (wpAny_rule (wpAny_pure (wpAny_pure (hsome y _ hkv))))
          · rw [decide_eq_false hkk]
            exact wpAny_bind (wpAny_rule (wpAny_pure ⟨rfl, rfl, y + 1, hr2, hlt, hHy.pass hkv hkk⟩))
        · rw [if_neg hh]
          refine wpAny_pure ⟨rfl, rfl, y + 1, hr2, hlt, hHy.pass hkv ?_⟩
          intro hkk
          rw [hkk] at hh; simp at hh
      · rintro b s' ⟨rfl, rfl, i, hr, hi, hH⟩
        rcases walk_end he haskey hr hi hH with ⟨_, hno⟩ | ⟨j, p, e, hj⟩
        · exact wpAny_pure (hnone hno)
        · cases e
    · rw [if_neg hv]
      by_cases hone : (((placesWithHash es.size (fun i => es[i]?.map (·.hash)) (mHash P w (.inr (.inl (some x))))).filterMap (fun i => es[i]?.map (·.key))) == [Value.int x t]) = true
      · rw [if_pos hone]
        refine wpAny_bind (wpAny_pure ?_)
        rw [if_neg (by simp)]
        refine wpAny_bind ?_
        refine wpAny_forIn_list _
          (fun rest b s' => s' = s ∧ ∃ i hit, b = (none, hit) ∧ rest = (List.range' i (es.size - i)).filter (fun i => (es[i]?.map (·.hash)) == some (mHash P w (.inr (.inl (some x))))) ∧ i ≤ es.size ∧ Hit xs (.inr (.inl (some x))) i hit) _ ?_ ?_ _ _
          ⟨rfl, 0, none, rfl, by rw [placesWithHash, List.range_eq_range', Nat.sub_zero], Nat.zero_le _, .inl ⟨rfl, fun _ _ z => absurd z (Nat.not_lt_zero _)⟩⟩
        · rintro y rest b s' ⟨rfl, i, hit, rfl, hr, hi, hH⟩
          obtain ⟨hlt, hr2, k', v', u', hkv, hex, hHy⟩ := walk_step he haskey hr hi hH
          have hib : mIs P w s'.heap k' v' := his _ (List.mem_of_getElem? hkv)
          rw [hex]
          dsimp only
          by_cases hh : (mHash P w k' == mHash P w (.inr (.inl (some x)))) = true
          · rw [if_pos hh]
            refine wpAny_bind (wpAny_dictEpoch ho hd (wpAny_bind (m_eq (x := k') (y := (.inr (.inl (some x)))) hu hib hkey (wpAny_bind (wpAny_dictEpoch ho hd ?_)))))
            show wpAny _ _ (if (ep != ep) = true then _ else _) _ E _
            rw [if_neg (by simp)]
            by_cases hkk : k' = (.inr (.inl (some x)))
            · rw [decide_eq_true hkk]
              subst hkk
              have hno := hHy.fresh hn hkv
              subst hno
              first | rw [if_pos rfl] | skip
              simp only [Option.isSome_none, Bool.false_eq_true, if_false]
              first | refine wpAny_bind (wpAny_pure ?_) | skip
              refine wpAny_bind (wpAny_rule ?_)
              split
              · exact wpAny_pure (wpAny_pure (hsome y _ hkv))
              · exact wpAny_pure ⟨rfl, y + 1, some y, rfl, hr2, hlt, .inr ⟨y, _, rfl, Nat.lt_succ_self y, hkv⟩⟩
            · rw [decide_eq_false hkk]
              simp only [Bool.false_eq_true, if_false]
              refine wpAny_bind (wpAny_rule ?_)
              first | rw [if_neg (by simp)] | skip
              first
                | exact wpAny_pure ⟨rfl, y + 1, hit, rfl, hr2, hlt, hHy.pass hkv hkk⟩
                | exact wpAny_bind (wpAny_pure (wpAny_pure ⟨rfl, y + 1, hit, rfl, hr2, hlt, hHy.pass hkv hkk⟩))
          · rw [if_neg hh]
            refine wpAny_pure ⟨rfl, y + 1, hit, rfl, hr2, hlt, hHy.pass hkv ?_⟩
            intro hkk
            rw [hkk] at hh; simp at hh
        · rintro b s' ⟨rfl, i, hit, rfl, hr, hi, hH⟩
          rcases walk_end he haskey hr hi hH with ⟨rfl, hno⟩ | ⟨j, p, rfl, hj⟩
          · exact wpAny_pure (hnone hno)
          · exact wpAny_pure (hsome j p hj)
      · rw [if_neg hone]
        refine wpAny_bind (m_tell hkey hst ?_)
        rw [if_neg (by simp)]
        refine wpAny_bind ?_
        refine wpAny_forIn_list _
          (fun rest b s' => s' = s ∧ ∃ i hit, b = (none, hit) ∧ rest = (List.range' i (es.size - i)).filter (fun i => (es[i]?.map (·.hash)) == some (mHash P w (.inr (.inl (some x))))) ∧ i ≤ es.size ∧ Hit xs (.inr (.inl (some x))) i hit) _ ?_ ?_ _ _
          ⟨rfl, 0, none, rfl, by rw [placesWithHash, List.range_eq_range', Nat.sub_zero], Nat.zero_le _, .inl ⟨rfl, fun _ _ z => absurd z (Nat.not_lt_zero _)⟩⟩
        · rintro y rest b s' ⟨rfl, i, hit, rfl, hr, hi, hH⟩
          obtain ⟨hlt, hr2, k', v', u', hkv, hex, hHy⟩ := walk_step he haskey hr hi hH
          have hib : mIs P w s'.heap k' v' := his _ (List.mem_of_getElem? hkv)
          rw [hex]
          dsimp only
          by_cases hh : (mHash P w k' == mHash P w (.inr (.inl (some x)))) = true
          · rw [if_pos hh]
            refine wpAny_bind (wpAny_dictEpoch ho hd (wpAny_bind (m_eq (x := k') (y := (.inr (.inl (some x)))) hu hib hkey (wpAny_bind (wpAny_dictEpoch ho hd ?_)))))
            show wpAny _ _ (if (ep != ep) = true then _ else _) _ E _
            rw [if_neg (by simp)]
            by_cases hkk : k' = (.inr (.inl (some x)))
            · rw [decide_eq_true hkk]
              subst hkk
              have hno := hHy.fresh hn hkv
              subst hno
              first | rw [if_pos rfl] | skip
              simp only [Option.isSome_none, Bool.false_eq_true, if_false]
              first | refine wpAny_bind (wpAny_pure ?_) | skip
              refine wpAny_bind (wpAny_rule ?_)
              split
              · exact wpAny_pure (wpAny_pure (hsome y _ hkv))
              · exact wpAny_pure ⟨rfl, y + 1, some y, rfl, hr2, hlt, .inr ⟨y, _, rfl, Nat.lt_succ_self y, hkv⟩⟩
            · rw [decide_eq_false hkk]
              simp only [Bool.false_eq_true, if_false]
              refine wpAny_bind (wpAny_rule ?_)
              first | rw [if_neg (by simp)] | skip
              first
                | exact wpAny_pure ⟨rfl, y + 1, hit, rfl, hr2, hlt, hHy.pass hkv hkk⟩
                | exact wpAny_bind (wpAny_pure (wpAny_pure ⟨rfl, y + 1, hit, rfl, hr2, hlt, hHy.pass hkv hkk⟩))
          · rw [if_neg hh]
            refine wpAny_pure ⟨rfl, y + 1, hit, rfl, hr2, hlt, hHy.pass hkv ?_⟩
            intro hkk
            rw [hkk] at hh; simp at hh
        · rintro b s' ⟨rfl, i, hit, rfl, hr, hi, hH⟩
          rcases walk_end he haskey hr hi hH with ⟨rfl, hno⟩ | ⟨j, p, rfl, hj⟩
          · exact wpAny_pure (hnone hno)
          · exact wpAny_pure (hsome j p hj)
  · obtain ⟨a, rfl, hka⟩ := id hkey
    have hany : ¬ (es.any fun e => e.key == Value.ref a && e.hash != mHash P w (.inr (.inr ks))) = true := by
      intro z
      rw [← Array.any_toList, List.any_eq_true] at z
      obtain ⟨e, hin, hc⟩ := z
      obtain ⟨y, hy, rfl⟩ := ent_mem he (Array.mem_toList_iff.mp hin)
      simp only [mEnt, Bool.and_eq_true, beq_iff_eq, bne_iff_ne, ne_eq] at hc
      have q := his y hy
      rw [hc.1] at q
      exact hc.2 (by rw [mIs_inj q hkey])
    unfold dictFind
    try with_reducible refine wpAny_holding ?_
    refine wpAny_bind (wpAny_dictEntries ho hd ?_)
    dsimp only
    rw [if_neg (show ¬ ((Value.ref a :: (placesWithHash es.size (fun i => es[i]?.map (·.hash)) (mHash P w (.inr (.inr ks)))).filterMap (fun i => es[i]?.map (·.key))).all carriedByValue) = true by simp [carriedByValue])]
    rw [if_neg hany]
    by_cases hone : (((placesWithHash es.size (fun i => es[i]?.map (·.hash)) (mHash P w (.inr (.inr ks)))).filterMap (fun i => es[i]?.map (·.key))) == [Value.ref a]) = true
    · rw [if_pos hone]
      refine wpAny_bind (wpAny_pure ?_)
      rw [if_neg (by simp)]
      refine wpAny_bind ?_
      refine wpAny_forIn_list _
        (fun rest b s' => s' = s ∧ ∃ i hit, b = (none, hit) ∧ rest = (List.range' i (es.size - i)).filter (fun i => (es[i]?.map (·.hash)) == some (mHash P w (.inr (.inr ks)))) ∧ i ≤ es.size ∧ Hit xs (.inr (.inr ks)) i hit) _ ?_ ?_ _ _
        ⟨rfl, 0, none, rfl, by rw [placesWithHash, List.range_eq_range', Nat.sub_zero], Nat.zero_le _, .inl ⟨rfl, fun _ _ z => absurd z (Nat.not_lt_zero _)⟩⟩
      · rintro y rest b s' ⟨rfl, i, hit, rfl, hr, hi, hH⟩
        obtain ⟨hlt, hr2, k', v', u', hkv, hex, hHy⟩ := walk_step he haskey hr hi hH
        have hib : mIs P w s'.heap k' v' := his _ (List.mem_of_getElem? hkv)
        rw [hex]
        dsimp only
        by_cases hh : (mHash P w k' == mHash P w (.inr (.inr ks))) = true
        · rw [if_pos hh]
          refine wpAny_bind (wpAny_dictEpoch ho hd (wpAny_bind (m_eq (x := k') (y := .inr (.inr ks)) hu hib hkey (wpAny_bind (wpAny_dictEpoch ho hd ?_)))))
          show wpAny _ _ (if (ep != ep) = true then _ else _) _ E _
          rw [if_neg (by simp)]
          by_cases hkk : k' = .inr (.inr ks)
          · rw [decide_eq_true hkk]
            subst hkk
            have hno := hHy.fresh hn hkv
            subst hno
            first | rw [if_pos rfl] | skip
            simp only [Option.isSome_none, Bool.false_eq_true, if_false]
            first | refine wpAny_bind (wpAny_pure ?_) | skip
            refine wpAny_bind (wpAny_rule ?_)
            split
            · exact wpAny_pure (wpAny_pure (hsome y _ hkv))
            · exact wpAny_pure ⟨rfl, y + 1, some y, rfl, hr2, hlt, .inr ⟨y, _, rfl, Nat.lt_succ_self y, hkv⟩⟩
          · rw [decide_eq_false hkk]
            simp only [Bool.false_eq_true, if_false]
            refine wpAny_bind (wpAny_rule ?_)
            first | rw [if_neg (by simp)] | skip
            first
              | exact wpAny_pure ⟨rfl, y + 1, hit, rfl, hr2, hlt, hHy.pass hkv hkk⟩
              | exact wpAny_bind (wpAny_pure (wpAny_pure ⟨rfl, y + 1, hit, rfl, hr2, hlt, hHy.pass hkv hkk⟩))
        · rw [if_neg hh]
          refine wpAny_pure ⟨rfl, y + 1, hit, rfl, hr2, hlt, hHy.pass hkv ?_⟩
          intro hkk
          rw [hkk] at hh; simp at hh
      · rintro b s' ⟨rfl, i, hit, rfl, hr, hi, hH⟩
        rcases walk_end he haskey hr hi hH with ⟨rfl, hno⟩ | ⟨j, p, rfl, hj⟩
        · exact wpAny_pure (hnone hno)
        · exact wpAny_pure (hsome j p hj)
    · rw [if_neg hone]
      refine wpAny_bind (m_tell hkey hst ?_)
      rw [if_neg (by simp)]
      refine wpAny_bind ?_
      refine wpAny_forIn_list _
        (fun rest b s' => s' = s ∧ ∃ i hit, b = (none, hit) ∧ rest = (List.range' i (es.size - i)).filter (fun i => (es[i]?.map (·.hash)) == some (mHash P w (.inr (.inr ks)))) ∧ i ≤ es.size ∧ Hit xs (.inr (.inr ks)) i hit) _ ?_ ?_ _ _
        ⟨rfl, 0, none, rfl, by rw [placesWithHash, List.range_eq_range', Nat.sub_zero], Nat.zero_le _, .inl ⟨rfl, fun _ _ z => absurd z (Nat.not_lt_zero _)⟩⟩
      · rintro y rest b s' ⟨rfl, i, hit, rfl, hr, hi, hH⟩
        obtain ⟨hlt, hr2, k', v', u', hkv, hex, hHy⟩ := walk_step he haskey hr hi hH
        have hib : mIs P w s'.heap k' v' := his _ (List.mem_of_getElem? hkv)
        rw [hex]
        dsimp only
        by_cases hh : (mHash P w k' == mHash P w (.inr (.inr ks))) = true
        · rw [if_pos hh]
          refine wpAny_bind (wpAny_dictEpoch ho hd (wpAny_bind (m_eq (x := k') (y := .inr (.inr ks)) hu hib hkey (wpAny_bind (wpAny_dictEpoch ho hd ?_)))))
          show wpAny _ _ (if (ep != ep) = true then _ else _) _ E _
          rw [if_neg (by simp)]
          by_cases hkk : k' = .inr (.inr ks)
          · rw [decide_eq_true hkk]
            subst hkk
            have hno := hHy.fresh hn hkv
            subst hno
            first | rw [if_pos rfl] | skip
            simp only [Option.isSome_none, Bool.false_eq_true, if_false]
            first | refine wpAny_bind (wpAny_pure ?_) | skip
            refine wpAny_bind (wpAny_rule ?_)
            split
            · exact wpAny_pure (wpAny_pure (hsome y _ hkv))
            · exact wpAny_pure ⟨rfl, y + 1, some y, rfl, hr2, hlt, .inr ⟨y, _, rfl, Nat.lt_succ_self y, hkv⟩⟩
          · rw [decide_eq_false hkk]
            simp only [Bool.false_eq_true, if_false]
            refine wpAny_bind (wpAny_rule ?_)
            first | rw [if_neg (by simp)] | skip
            first
              | exact wpAny_pure ⟨rfl, y + 1, hit, rfl, hr2, hlt, hHy.pass hkv hkk⟩
              | exact wpAny_bind (wpAny_pure (wpAny_pure ⟨rfl, y + 1, hit, rfl, hr2, hlt, hHy.pass hkv hkk⟩))
        · rw [if_neg hh]
          refine wpAny_pure ⟨rfl, y + 1, hit, rfl, hr2, hlt, hHy.pass hkv ?_⟩
          intro hkk
          rw [hkk] at hh; simp at hh
      · rintro b s' ⟨rfl, i, hit, rfl, hr, hi, hH⟩
        rcases walk_end he haskey hr hi hH with ⟨rfl, hno⟩ | ⟨j, p, rfl, hj⟩
        · exact wpAny_pure (hnone hno)
        · exact wpAny_pure (hsome j p hj)
end
end Own
set_option Elab.async false
set_option linter.all false
set_option maxRecDepth 100000
set_option maxHeartbeats 2000000
/-! a dict with texts and tuples among its keys: read and written -/
namespace Own
open PySem PySem.Spec PyProof.Rows L2
section
variable (P : Program) (w : World)
structure MD (h : Heap) (d : Addr) (xs : List (MK × Value × Value)) : Prop where
  ex : ∃ o es ep, h.get? d = some o ∧ o.ExactDict ∧ o.data = .dict es ep ∧ es.toList = xs.map (mEnt P w)
  is : ∀ y ∈ xs, mIs P w h y.1 y.2.1
  nd : (xs.map (·.1)).Nodup
end
section
variable {P : Program} {w : World} {A : Around} {E : Value → Shared → Prop} {s : Shared} {d : Addr} {xs : List (MK × Value × Value)} {k : MK} {key : Value}
theorem MD.typeIs (hm : MD P w s.heap d xs) : s.TypeIs (.ref d) "dict" := by
  obtain ⟨o, _, _, ho, hc, _⟩ := hm.ex
  exact ⟨o, ho, hc.1⟩
theorem m_get {Q : Option Value → Shared → Prop} (hu : A.units < cLine) (hkey : mIs P w s.heap k key) (hm : MD P w s.heap d xs)
    (hno : (∀ (j : Nat) (p : Value × Value), xs[j]? ≠ some (k, p)) → Q none { s with toks := s.toks + mDraws k }) (hyes : ∀ (j : Nat) (p : Value × Value), xs[j]? = some (k, p) → Q (some p.2) { s with toks := s.toks + mDraws k }) : wpAny (model P w) A (dictGet d key) Q E s := by
  obtain ⟨o, es, ep, ho, _, hd, he⟩ := hm.ex
  unfold dictGet
  try with_reducible refine wpAny_holding ?_
  refine wpAny_bind (m_hash hu hkey (wpAny_bind (m_find (s := { s with toks := s.toks + mDraws k }) hu hkey ho hd he hm.is hm.nd (fun z => ?_) fun j p hj => ?_)))
  · exact wpAny_pure (hno z)
  · refine wpAny_bind (wpAny_dictEntries (s := { s with toks := s.toks + mDraws k }) ho hd ?_)
    rw [ent_at he j, hj]
    exact wpAny_pure (hyes j p hj)
theorem m_set {v : Value} {Q : Unit → Shared → Prop} (hu : A.units < cLine) (hkey : mIs P w s.heap k key) (hm : MD P w s.heap d xs) (hsz : xs.length ≤ sizeLine)
    (hnew : (∀ (j : Nat) (p : Value × Value), xs[j]? ≠ some (k, p)) → ∀ h', MD P w h' d (xs ++ [(k, key, v)]) → Heap.SameBut d s.heap h' → Q () { s with heap := h', toks := s.toks + mDraws k })
    (hold : ∀ (j : Nat) (p : Value × Value), xs[j]? = some (k, p) → ∀ h', MD P w h' d (xs.modify j fun y => (y.1, y.2.1, v)) → Heap.SameBut d s.heap h' → Q () { s with heap := h', toks := s.toks + mDraws k }) :
    wpAny (model P w) A (dictSet d key v) Q E s := by
  obtain ⟨o, es, ep, ho, hc, hd, he⟩ := hm.ex
  unfold dictSet
  try with_reducible refine wpAny_holding ?_
  refine wpAny_bind (m_hash hu hkey ?_)
  unfold dictSetHashed
  try with_reducible refine wpAny_holding ?_
  refine wpAny_bind (m_find (s := { s with toks := s.toks + mDraws k }) hu hkey ho hd he hm.is hm.nd (fun hno => ?_) fun j p hj => ?_)
  · have hnot : k ∉ xs.map (·.1) := fun m => by
      obtain ⟨y, hy, e⟩ := List.mem_map.mp m
      obtain ⟨j, hj, ej⟩ := List.getElem_of_mem hy
      exact hno j y.2 (by rw [List.getElem?_eq_getElem hj, ej, ← e])
    refine wpAny_bind (wpAny_rule (wpAny_updateDictKeys (hz := by have e := ent_size he; omega) (s := { s with toks := s.toks + mDraws k }) ho hd (hnew hno _ ⟨⟨_, _, ep + 1, Heap.get?_update_self _ ho (Obj.isFreed_of_dict (Obj.data_mapDictKeys hd _)),
      hc.mapDictKeys _, Obj.data_mapDictKeys hd _, ?_⟩, ?_, ?_⟩ (Heap.SameBut.update ..))))
    · simp [he, mEnt]
    · intro y hy
      rcases List.mem_append.mp hy with hy | hy
      · exact mIs_keeps (hm.is y hy) ho hd (Heap.SameBut.update ..)
      · rw [List.mem_singleton.mp hy]
        exact mIs_keeps hkey ho hd (Heap.SameBut.update ..)
    · rw [List.map_append, List.nodup_append]
      refine ⟨hm.nd, by simp, fun a ha b hb e => ?_⟩
      rw [List.map_cons, List.map_nil, List.mem_singleton] at hb
      exact hnot (by have e2 : b = k := hb; rw [← e2, ← e]; exact ha)
  · refine wpAny_bind (wpAny_rule (wpAny_bind (wpAny_updateDict (s := { s with toks := s.toks + mDraws k }) ho hd (wpAny_point (hold j p hj _ ⟨⟨_, _, ep, Heap.get?_update_self _ ho (Obj.isFreed_of_dict (Obj.data_mapDict hd _)),
      hc.mapDict _, Obj.data_mapDict hd _, ?_⟩, ?_, ?_⟩ (Heap.SameBut.update ..))))))
    · rw [Array.toList_modify, he]
      refine List.ext_getElem? fun i => ?_
      rw [List.getElem?_modify, List.getElem?_map, List.getElem?_map, List.getElem?_modify]
      cases hx : xs[i]? with
      | none => rfl
      | some y =>
        by_cases e : j = i
        · simp [e, mEnt]
        · simp [e]
    · intro y hy
      obtain ⟨i, hi, ei⟩ := List.getElem_of_mem hy
      have e1 : (xs.modify j fun y => (y.1, y.2.1, v))[i]? = some y := by rw [List.getElem?_eq_getElem hi, ei]
      rw [List.getElem?_modify] at e1
      cases hx : xs[i]? with
      | none => rw [hx] at e1; cases e1
      | some z =>
        rw [hx] at e1
        have hz := hm.is z (List.mem_of_getElem? hx)
        have hz2 := mIs_keeps hz ho hd (Heap.SameBut.update (h := s.heap) (a := d) (f := Obj.mapDict (·.modify j fun e => { e with val := v })))
        have e2 : (if j = i then (z.1, z.2.1, v) else z) = y := Option.some.inj e1
        by_cases e : j = i
        · rw [if_pos e] at e2
          rw [← e2]
          exact hz2
        · rw [if_neg e] at e2
          rw [← e2]
          exact hz2
    · have : (xs.modify j fun y => (y.1, y.2.1, v)).map (·.1) = xs.map (·.1) := by
        refine List.ext_getElem? fun i => ?_
        rw [List.getElem?_map, List.getElem?_map, List.getElem?_modify]
        cases xs[i]? with
        | none => rfl
        | some y => by_cases e : j = i <;> simp [e]
      rw [this]; exact hm.nd
end
end Own
set_option Elab.async false
set_option linter.all false
set_option maxRecDepth 100000
set_option maxHeartbeats 2000000
/-! the hand layer's rules for such a dict -/
namespace Own
open PySem PySem.Spec PyProof.Rows L2
def MR (x : MK × V × V) (v : MK × Value × Value) : Prop := x.1 = v.1 ∧ RelV x.2.1 v.2.1 ∧ RelV x.2.2 v.2.2
def MxO (P : Program) (w : World) (d : Addr) (xs : List (MK × V × V)) : HO := .ext fun h => xs.length ≤ sizeLine ∧ (d == sysModules) = false ∧ (xs.map (·.1)).Nodup ∧
  ∃ (vs : List (MK × Value × Value)) (o : Obj) (es : Array DictEntry) (ep : Nat), Paired MR xs vs ∧ h.get? d = some o ∧ o.ExactDict ∧ o.data = .dict es ep ∧ es.toList = vs.map (mEnt P w)
def KeyAt (H : Hp) (x : MK × V × V) : Prop := match x.1 with
  | .inl z => x.2.1 = .str z
  | .inr (.inl none) => x.2.1 = .non
  | .inr (.inl (some i)) => x.2.1 = .int i
  | .inr (.inr ks) => ∃ a : Addr, x.2.1 = .ref a ∧ H a = some (.tup (ks.map kV))
def KeyL (K : PySem.W.Frag) (H : Hp) (y : V) : MK → Prop
  | .inl z => y = .str z
  | .inr (.inl none) => y = .non
  | .inr (.inl (some i)) => y = .int i
  | .inr (.inr ks) => ∃ a : Addr, y = .ref a ∧ SqT K H a (ks.map kV)
structure MDic (P : Program) (w : World) (H : Hp) (d : Addr) (m : List (MK × V)) : Prop where
  ex : ∃ xs, H d = some (MxO P w d xs) ∧ (∀ x ∈ xs, KeyAt H x) ∧ m = xs.map fun x => (x.1, x.2.2)
theorem KeyAt.up {H H' : Hp} {x : MK × V × V} (h : KeyAt H x) (s : ∀ a ys, H a = some (.tup ys) → H' a = some (.tup ys)) : KeyAt H' x := by
  unfold KeyAt at h ⊢
  split at h
  · exact h
  · exact h
  · exact h
  · obtain ⟨a, e1, e2⟩ := h
    exact ⟨a, e1, s _ _ e2⟩
theorem MDic.up {P : Program} {w : World} {H H' : Hp} {d : Addr} {m : List (MK × V)} (h : MDic P w H d m) (s : Same H H') : MDic P w H' d m := by
  obtain ⟨xs, h1, h2, h3⟩ := h.ex
  exact ⟨xs, s _ _ h1, fun x hx => (h2 x hx).up fun a ys e => s _ _ e, h3⟩
section
variable {P : Program} {w : World}
theorem mr_keys : ∀ {xs : List (MK × V × V)} {vs : List (MK × Value × Value)}, Paired MR xs vs → vs.map (·.1) = xs.map (·.1)
  | _, _, .nil => rfl
  | _, _, .cons a b => by rw [List.map_cons, List.map_cons, mr_keys b, a.1]
theorem mr_at : ∀ {xs : List (MK × V × V)} {vs : List (MK × Value × Value)} {i : Nat} {v : MK × Value × Value}, Paired MR xs vs → vs[i]? = some v → ∃ x, xs[i]? = some x ∧ MR x v
  | _, _, 0, v, .cons a _, h => ⟨_, rfl, by rw [← Option.some.inj h]; exact a⟩
  | _, _, i + 1, v, .cons _ b, h => mr_at (i := i) b h
  | _, _, i, v, .nil, h => by simp at h
theorem mr_at' : ∀ {xs : List (MK × V × V)} {vs : List (MK × Value × Value)} {i : Nat} {x : MK × V × V}, Paired MR xs vs → xs[i]? = some x → ∃ v, vs[i]? = some v ∧ MR x v
  | _, _, 0, x, .cons a _, h => ⟨_, rfl, by rw [← Option.some.inj h]; exact a⟩
  | _, _, i + 1, x, .cons _ b, h => mr_at' (i := i) b h
  | _, _, i, x, .nil, h => by simp at h
theorem mr_snoc : ∀ {xs : List (MK × V × V)} {vs : List (MK × Value × Value)} {x : MK × V × V} {v : MK × Value × Value}, Paired MR xs vs → MR x v → Paired MR (xs ++ [x]) (vs ++ [v])
  | _, _, _, _, .nil, h => .cons h .nil
  | _, _, _, _, .cons a b, h => .cons a (mr_snoc b h)
theorem mr_mod {y : V} {u : Value} (ry : RelV y u) : ∀ {xs : List (MK × V × V)} {vs : List (MK × Value × Value)} (j : Nat), Paired MR xs vs → Paired MR (xs.modify j fun x => (x.1, x.2.1, y)) (vs.modify j fun x => (x.1, x.2.1, u))
  | _, _, _, .nil => by simpa using .nil
  | _, _, 0, .cons a b => .cons ⟨a.1, a.2.1, ry⟩ b
  | _, _, j + 1, .cons a b => .cons a (mr_mod ry j b)
theorem tup_is {h : Heap} {ks : List L2.Key} {a : Addr} {its : List Value} (r : Vals (ks.map kV) its) (ht : IsTup h a its.toArray) : (tupleKind (mixKind P w)).is h ks a := by
  obtain ⟨o, h1, h2, n, h3⟩ := ht
  exact ⟨o, its.toArray, n, h1, h2, h3, by simpa using items_are r⟩
section
variable {X : Cx} {pins : List (Addr × Obj)} {σ : L2.St} {H : Hp} {s : Shared} {d : Addr}
theorem key_real (I : L2.Inv X pins σ H s) {y : V} {u : Value} {k : MK} (hk : KeyL X.K H y k) (ry : RelV y u) : mIs X.prog X.w s.heap k u := by
  rcases k with z | (_ | z) | ks
  · have e : y = .str z := hk
    subst e
    exact ry
  · have e : y = .non := hk
    subst e
    exact ry
  · have e : y = .int z := hk
    subst e
    exact ry
  · obtain ⟨a, e, hs⟩ := hk
    subst e
    obtain rfl : u = Value.ref a := ry
    obtain ⟨its, r, ht, _⟩ := I.tuple hs
    exact ⟨a, rfl, tup_is r ht⟩
theorem keyAt_real (I : L2.Inv X pins σ H s) {x : MK × V × V} {v : MK × Value × Value} (hk : KeyAt H x) (r : MR x v) : mIs X.prog X.w s.heap v.1 v.2.1 := by
  obtain ⟨k, y, z⟩ := x
  obtain ⟨k2, u, z2⟩ := v
  obtain ⟨e, r1, _⟩ := r
  cases e
  rcases k with z | (_ | z) | ks
  · have e : y = .str z := hk
    subst e
    exact r1
  · have e : y = .non := hk
    subst e
    exact r1
  · have e : y = .int z := hk
    subst e
    exact r1
  · obtain ⟨a, e, hs⟩ := (show ∃ a : Addr, y = .ref a ∧ H a = some (.tup (ks.map kV)) from hk)
    subst e
    obtain rfl : u = Value.ref a := r1
    exact ⟨a, rfl, key_of I.hok hs⟩
theorem md_of (I : L2.Inv X pins σ H s) {xs : List (MK × V × V)} (h1 : H d = some (MxO X.prog X.w d xs)) (h2 : ∀ x ∈ xs, KeyAt H x) :
    xs.length ≤ sizeLine ∧ (d == sysModules) = false ∧ (xs.map (·.1)).Nodup ∧ ∃ vs, Paired MR xs vs ∧ MD X.prog X.w s.heap d vs := by
  obtain ⟨hl, hs, hn, vs, o, es, ep, hp, ho, hc, hd, he⟩ := (show ObjOk X.prog X.w H s.heap d (MxO X.prog X.w d xs) from I.hok d _ h1).1
  refine ⟨hl, hs, hn, vs, hp, ⟨o, es, ep, ho, hc, hd, he⟩, fun v hv => ?_, by rw [mr_keys hp]; exact hn⟩
  obtain ⟨i, hi, e⟩ := List.getElem_of_mem hv
  obtain ⟨x, hx, r⟩ := mr_at hp (by rw [List.getElem?_eq_getElem hi, e])
  exact keyAt_real I (h2 x (List.mem_of_getElem? hx)) r
theorem mx_ok {h : Heap} {xs : List (MK × V × V)} {vs : List (MK × Value × Value)} (hl : xs.length ≤ sizeLine) (hs : (d == sysModules) = false) (hn : (xs.map (·.1)).Nodup) (hp : Paired MR xs vs)
    (ex : ∃ o es ep, h.get? d = some o ∧ o.ExactDict ∧ o.data = .dict es ep ∧ es.toList = vs.map (mEnt X.prog X.w)) : ObjOk X.prog X.w H h d (MxO X.prog X.w d xs) := by
  obtain ⟨o, es, ep, ho, hc, hd, he⟩ := ex
  refine ⟨⟨hl, hs, hn, vs, o, es, ep, hp, ho, hc, hd, he⟩, ⟨o, ho⟩, fun h1 h2 z k => ?_⟩
  obtain ⟨a1, a2, a3, vs1, o1, es1, ep1, b1, b2, b3, b4, b5⟩ := z
  exact ⟨a1, a2, a3, vs1, o1, es1, ep1, b1, k _ b2, b3, b4, b5⟩
/-- what stands at a place of the pairs -/
theorem val_of {xs : List (MK × V × V)} (hn : (xs.map (·.1)).Nodup) {j : Nat} {x : MK × V × V} (h : xs[j]? = some x) : valV (xs.map fun x => (x.1, x.2.2)) x.1 = some x.2.2 := by
  induction xs generalizing j with
  | nil => simp at h
  | cons y r ih =>
    rw [List.map_cons, List.nodup_cons] at hn
    cases j with
    | zero =>
      cases h
      exact valV_pos rfl
    | succ j =>
      have hm : x.1 ∈ r.map (·.1) := List.mem_map.mpr ⟨x, List.mem_of_getElem? (show r[j]? = some x from h), rfl⟩
      rw [List.map_cons, valV_neg (fun e : y.1 = x.1 => hn.1 (by rw [e]; exact hm))]
      exact ih hn.2 (show r[j]? = some x from h)
theorem val_none {xs : List (MK × V × V)} {k : MK} (h : ∀ (j : Nat) (p : V × V), xs[j]? ≠ some (k, p)) : valV (xs.map fun x => (x.1, x.2.2)) k = none := by
  induction xs with
  | nil => rfl
  | cons y r ih =>
    rw [List.map_cons, valV_neg (fun e : y.1 = k => h 0 y.2 (by rw [← e]; rfl))]
    exact ih fun j p e => h (j + 1) p e
end
end
end Own
set_option Elab.async false
set_option linter.all false
set_option maxRecDepth 100000
set_option maxHeartbeats 2000000
/-! d[k], k in d, d[k] = v; a dict of texts told as such a dict -/
namespace Own
open PySem PySem.Spec PyProof.Rows L2
section
variable {X : Cx} {pins : List (Addr × Obj)} {σ : L2.St} {H : Hp} {s : Shared} {d : Addr} {m : List (MK × V)} {k : MK} {y : V} {u : Value} {A : Around} {E : Value → Shared → Prop}
theorem mx_getItem {Q : Value → Shared → Prop} {v : V} (hu : A.units + 1 < cLine) (I : L2.Inv X pins σ H s) (g : MDic X.prog X.w H d m) (hk : KeyL X.K H y k) (ry : RelV y u) (hv : valV m k = some v) (h : ∀ w' s', L2.Inv X pins σ H s' → RelV v w' → Q w' s') :
    wpAny (model X.prog X.w) A (getItem (.ref d) u) Q E s := by
  obtain ⟨xs, h1, h2, rfl⟩ := g.ex
  obtain ⟨_, _, hn, vs, hp, hm⟩ := md_of I h1 h2
  unfold getItem
  try with_reducible refine wpAny_holding ?_
  refine wpAny_bind (wpAny_sequenceKey hm.typeIs (by decide) ?_)
  refine wpAny_bind (wpAny_callSpecial?_slot (name := Str.ofString "__getitem__") hm.typeIs PySem.F.slot_dict_getitem (wpAny_call_entry PySem.F.slot_dict_getitem hm.typeIs PySem.F.entry_dict_getitem ?_ (PySem.F.args_dict_getitem_2 _ _)))
  show wpAny _ _ (dictGet d u >>= _) _ _ s
  refine wpAny_bind (m_get (A := A.in1) hu (key_real I hk ry) hm (fun z => ?_) fun j p hj => ?_)
  · rw [val_none fun j p e => ?_] at hv
    · cases hv
    · obtain ⟨v2, e2, r⟩ := mr_at' hp e
      obtain ⟨k2, q⟩ := v2
      exact z j q (by rw [e2, show k2 = k from r.1.symm])
  · obtain ⟨x, hx, r⟩ := mr_at hp hj
    have e := val_of hn hx
    rw [show x.1 = k from r.1] at e
    rw [hv] at e
    have e2 : v = x.2.2 := Option.some.inj e
    exact wpAny_pure ⟨p.2, rfl, wpAny_pure (h _ _ (I.tok _) (by rw [e2]; exact r.2.2))⟩
theorem mx_in {Q : Value → Shared → Prop} (hu : A.units + 1 < cLine) (I : L2.Inv X pins σ H s) (g : MDic X.prog X.w H d m) (hk : KeyL X.K H y k) (ry : RelV y u) (h : ∀ s', L2.Inv X pins σ H s' → Q (.bool (valV m k).isSome) s') :
    wpAny (model X.prog X.w) A (compareOp .In u (.ref d)) Q E s := by
  obtain ⟨xs, h1, h2, rfl⟩ := g.ex
  obtain ⟨_, hsm, hn, vs, hp, hm⟩ := md_of I h1 h2
  show wpAny _ _ (do return .bool (← contains (.ref d) u)) Q E s
  refine wpAny_bind ?_
  unfold contains
  try with_reducible refine wpAny_holding ?_
  refine wpAny_bind (wpAny_specialOf hm.typeIs PySem.F.slot_dict_contains.lookup ?_)
  show wpAny _ _ (if (some (Value.builtin "dict.__contains__") == some Value.none) = true then _ else _) _ E s
  rw [if_neg (by rw [beq_builtin_none]; exact Bool.false_ne_true)]
  refine wpAny_bind (wpAny_callSpecialUnlessNone?_slot (name := Str.ofString "__contains__") hm.typeIs PySem.F.slot_dict_contains
    (wpAny_call_entry PySem.F.slot_dict_contains hm.typeIs PySem.F.entry_dict_contains ?_ (PySem.F.args_dict_contains_2 _ _)))
  show wpAny _ _ (dictGet d u >>= _) _ _ s
  refine wpAny_bind (m_get (A := A.in1) hu (key_real I hk ry) hm (fun z => ?_) fun j p hj => ?_)
  · have e0 := val_none (xs := xs) (k := k) fun j p e => by
      obtain ⟨v2, e2, r⟩ := mr_at' hp e
      obtain ⟨k2, q⟩ := v2
      exact z j q (by rw [e2, show k2 = k from r.1.symm])
    rw [e0] at h
    show wpAny _ _ (Builtin.Dict.pendingKey? d u >>= _) _ _ _
    exact wpAny_bind (wpAny_pendingKey_other hsm (wpAny_pure ⟨_, rfl, wpAny_truthy_bool (wpAny_pure (h _ (I.tok _)))⟩))
  · obtain ⟨x, hx, r⟩ := mr_at hp hj
    have e := val_of hn hx
    rw [show x.1 = k from r.1] at e
    rw [e] at h
    show wpAny _ _ (ret (.bool true)) _ _ _
    exact wpAny_pure ⟨_, rfl, wpAny_truthy_bool (wpAny_pure (h _ (I.tok _)))⟩
theorem keyAt_new {k : MK} {y v : V} {H : Hp} (hk : KeyAt H (k, y, v)) : ∀ v', KeyAt H (k, y, v') := fun v' => hk
/-- d[y] = v: what the key is stands in the heap as a tuple of one's own, or is a text -/
theorem mx_setItem {r : Value} {v : V} {Q : Unit → Shared → Prop} (hu : A.units + 1 < cLine) (I : L2.Inv X pins σ H s) (g : MDic X.prog X.w H d m) (hk : KeyL X.K H y k) (hka : KeyAt H (k, y, v)) (hl : m.length < sizeLine) (ry : RelV y u) (rv : RelV v r)
    (h : ∀ o s', MDic X.prog X.w (upd H d o) d (putK m k v) → L2.Inv X pins σ (upd H d o) s' → Q () s') : wpAny (model X.prog X.w) A (setItem (.ref d) u r) Q E s := by
  obtain ⟨xs, h1, h2, rfl⟩ := g.ex
  obtain ⟨hl0, hsm, hn, vs, hp, hm⟩ := md_of I h1 h2
  have hlx : xs.length < sizeLine := by rw [List.length_map] at hl; exact hl
  have hlv : vs.length = xs.length := hp.length.symm
  have keep : ∀ {o : HO} (x : MK × V × V), KeyAt H x → KeyAt (upd H d o) x := fun x z => z.up fun a ys e => by
    rw [upd_ne (ne_of e h1 (fun q => nomatch q))]; exact e
  unfold setItem
  try with_reducible refine wpAny_holding ?_
  refine wpAny_bind (wpAny_sequenceKey hm.typeIs (by decide) ?_)
  refine wpAny_bind (wpAny_callSpecial?_slot (name := Str.ofString "__setitem__") hm.typeIs PySem.F.slot_dict_setitem (wpAny_call_entry PySem.F.slot_dict_setitem hm.typeIs PySem.F.entry_dict_setitem ?_ (PySem.F.args_dict_setitem_3 _ _ _)))
  show wpAny _ _ (Builtin.Dict.notOrdered "__setitem__" ⟨[.ref d, u, r], []⟩ >>= _) _ _ s
  refine wpAny_bind (wpAny_notOrdered_dict hm.typeIs ?_)
  show wpAny _ _ (dictSet d u r >>= _) _ _ s
  have mu : Mut (H d) := by rw [h1]; exact True.intro
  refine wpAny_bind (m_set (A := A.in1) hu (key_real I hk ry) hm (by rw [hlv]; exact hl0) (fun hno h' hm' hs' => wpAny_pure ⟨.none, rfl, wpAny_pure (h (MxO X.prog X.w d (xs ++ [(k, y, v)])) _ ⟨⟨_, upd_same, fun x hx => ?_, ?_⟩⟩ ?_)⟩) fun j p hj h' hm' hs' => wpAny_pure ⟨.none, rfl, wpAny_pure (h (MxO X.prog X.w d (xs.modify j fun x => (x.1, x.2.1, v))) _ ⟨⟨_, upd_same, fun x hx => ?_, ?_⟩⟩ ?_)⟩)
  · rcases List.mem_append.mp hx with hx | hx
    · exact keep _ (h2 x hx)
    · rw [List.mem_singleton.mp hx]; exact keep _ hka
  · have e0 := val_none (xs := xs) (k := k) fun j p e => by
      obtain ⟨v2, e2, r⟩ := mr_at' hp e
      obtain ⟨k2, q⟩ := v2
      exact hno j q (by rw [e2, show k2 = k from r.1.symm])
    rw [putK_new v e0, List.map_append]; rfl
  · have hpn := mr_snoc hp (show MR (k, y, v) (k, u, r) from ⟨rfl, ry, rv⟩)
    have hnn : ((xs ++ [(k, y, v)]).map (·.1)).Nodup := by rw [← mr_keys hpn]; exact hm'.nd
    obtain ⟨o, es, ep, ho, q⟩ := hm'.ex
    exact d_write I mu hs' ⟨o, ho⟩ (mx_ok (by rw [List.length_append, List.length_singleton]; omega) hsm hnn hpn ⟨o, es, ep, ho, q⟩)
  · obtain ⟨i, hi, e⟩ := List.getElem_of_mem hx
    have e1 : (xs.modify j fun x => (x.1, x.2.1, v))[i]? = some x := by rw [List.getElem?_eq_getElem hi, e]
    rw [List.getElem?_modify] at e1
    cases hz : xs[i]? with
    | none => rw [hz] at e1; cases e1
    | some z =>
      rw [hz] at e1
      have e2 : (if j = i then (z.1, z.2.1, v) else z) = x := Option.some.inj e1
      have hzk := h2 z (List.mem_of_getElem? hz)
      by_cases c : j = i
      · rw [if_pos c] at e2
        rw [← e2]; exact keep _ hzk
      · rw [if_neg c] at e2
        rw [← e2]; exact keep _ hzk
  · obtain ⟨x, hx, rx⟩ := mr_at hp hj
    have ek : x.1 = k := rx.1
    have he := val_of hn hx
    rw [ek] at he
    unfold putK
    rw [valV_any, he]
    refine List.ext_getElem? fun i => ?_
    simp only [Option.isSome_some, if_true, List.getElem?_map, List.getElem?_modify]
    cases hz : xs[i]? with
    | none => rfl
    | some z =>
      by_cases c : j = i
      · subst c
        rw [hx] at hz
        cases hz
        simp [ek]
      · have nk : ¬ z.1 = k := fun q => c (by
          have a1 : (xs.map (·.1))[j]? = some k := by rw [List.getElem?_map, hx, ← ek]; rfl
          have a2 : (xs.map (·.1))[i]? = some k := by rw [List.getElem?_map, hz, ← q]; rfl
          obtain ⟨b1, c1⟩ := List.getElem?_eq_some_iff.mp a1
          obtain ⟨b2, c2⟩ := List.getElem?_eq_some_iff.mp a2
          exact (List.getElem_inj hn).mp (c1.trans c2.symm))
        simp [c, nk]
  · have hpn := mr_mod rv j hp
    have hnn : ((xs.modify j fun x => (x.1, x.2.1, v)).map (·.1)).Nodup := by rw [← mr_keys hpn]; exact hm'.nd
    obtain ⟨o, es, ep, ho, q⟩ := hm'.ex
    exact d_write I mu hs' ⟨o, ho⟩ (mx_ok (by rw [List.length_modify]; exact hl0) hsm hnn hpn ⟨o, es, ep, ho, q⟩)
end
end Own
set_option Elab.async false
set_option linter.all false
set_option maxRecDepth 100000
set_option maxHeartbeats 2000000
/-! expressions and statements over such a dict -/
namespace Own
open PySem PySem.Spec PyProof.Rows L2
def tMGet (P : Program) (w : World) (K : PySem.W.Frag) (td ty : TE) : TE := fun σ H Q => td σ H fun x H1 => ty σ H1 fun y H2 => ∃ d m k v, x = .ref d ∧ MDic P w H2 d m ∧ KeyL K H2 y k ∧ valV m k = some v ∧ Q v H2
def tMIn (P : Program) (w : World) (K : PySem.W.Frag) (ty td : TE) : TE := fun σ H Q => ty σ H fun y H1 => td σ H1 fun x H2 => ∃ d m k, x = .ref d ∧ MDic P w H2 d m ∧ KeyL K H2 y k ∧ Q (.bl (valV m k).isSome) H2
def sMPut (P : Program) (w : World) (K : PySem.W.Frag) (td ty tv : TE) : TS := fun D σ H => tv σ H fun v H1 => td σ H1 fun x H2 => ty σ H2 fun y H3 => ∃ d m k, x = .ref d ∧ MDic P w H3 d m ∧ KeyL K H3 y k ∧ KeyAt H3 (k, y, v) ∧ m.length < sizeLine ∧ ∀ o, MDic P w (upd H3 d o) d (putK m k v) → D.nx σ (upd H3 d o)
/-- a dict of texts is told as one with texts and tuples -/
def tMix (P : Program) (w : World) (t : TE) : TE := fun σ H Q => t σ H fun x H1 => ∃ d kvs, x = .ref d ∧ H1 d = some (.dK kvs) ∧ ∃ m : List (Str × V), kvs = m.map (fun q => (.inr q.1, q.2)) ∧ ∀ o, MDic P w (upd H1 d o) d (m.map fun q => (.inl q.1, q.2)) → Q x (upd H1 d o)
section
variable {X : Cx}
theorem md_type {pins : List (Addr × Obj)} {σ : L2.St} {H : Hp} {s : Shared} {d : Addr} {m : List (MK × V)} (I : L2.Inv X pins σ H s) (g : MDic X.prog X.w H d m) : s.TypeIs (.ref d) "dict" := by
  obtain ⟨xs, h1, h2, rfl⟩ := g.ex
  obtain ⟨_, _, _, vs, _, hm⟩ := md_of I h1 h2
  exact hm.typeIs
theorem pe_mget {P : Program} {w : World} {K : PySem.W.Frag} (hP : X.prog = P) (hw : X.w = w) (hK : X.K = K) {o i : Expr} {td ty : TE} {pos : Pos} (hu : X.A.units + 1 < cLine) (ho : PE X o td) (hi : PE X i ty) (hs : NoSl i) : PE X (.Subscript o i pos) (tMGet P w K td ty) := by
  subst hP hw hK
  refine ⟨fun pins s σ H Q I h => ?_⟩
  refine subD_of PySem.F.slot_dict_getitem.lookup hs (thn (ho.run pins s σ H _ I h) fun u s1 ⟨x, H1, I1, rx, q1⟩ => thn (hi.run pins s1 σ H1 _ I1 q1) fun iv s2 ⟨y, H2, I2, ry, d, m, k, v, ex, g, hk, hv, q2⟩ => ?_)
  subst ex
  obtain rfl : u = Value.ref d := rx
  exact ⟨md_type I2 g, mx_getItem hu I2 g hk ry hv fun w' s3 I3 rw' => ⟨v, H2, I3, rw', q2⟩⟩
theorem pc_min {P : Program} {w : World} {K : PySem.W.Frag} (hP : X.prog = P) (hw : X.w = w) (hK : X.K = K) {o i : Expr} {td ty : TE} (hu : X.A.units + 1 < cLine) (hi : PE X i ty) (ho : PE X o td) : PC X .In i o (tMIn P w K ty td) := by
  subst hP hw hK
  refine ⟨fun pins s σ H Q I h => ?_⟩
  refine thn (hi.run pins s σ H _ I h) fun iv s1 ⟨y, H1, I1, ry, q1⟩ => thn (ho.run pins s1 σ H1 _ I1 q1) fun u s2 ⟨x, H2, I2, rx, d, m, k, ex, g, hk, q2⟩ => ?_
  subst ex
  obtain rfl : u = Value.ref d := rx
  exact mx_in hu I2 g hk ry fun s3 I3 => ⟨.bl (valV m k).isSome, H2, I3, rfl, q2⟩
theorem ps_mput {P : Program} {w : World} {K : PySem.W.Frag} (hP : X.prog = P) (hw : X.w = w) (hK : X.K = K) {o i value : Expr} {td ty tv : TE} {pos pos' : Pos} (hu : X.A.units + 1 < cLine) (ho : PE X o td) (hi : PE X i ty) (hv : PE X value tv) (hs : swapsWith value (some (.Subscript o i pos')) pos.line X.env = pure false) :
    PS X (.Assign [.Subscript o i pos'] value pos) (sMPut P w K td ty tv) := by
  subst hP hw hK
  refine ⟨fun pins s σ H D I h => ?_⟩
  refine wpAny_Assign_Subscript (thn (hv.run pins s σ H _ I h) fun r s1 ⟨v, H1, I1, rv, q1⟩ => thn (ho.run pins s1 σ H1 _ I1 q1) fun u s2 ⟨x, H2, I2, rx, q2⟩ => thn (hi.run pins s2 σ H2 _ I2 q2) fun iv s3 ⟨y, H3, I3, ry, d, m, k, ex, g, hk, hka, hl, q3⟩ => ?_) hs
  subst ex
  obtain rfl : u = Value.ref d := rx
  exact mx_setItem hu I3 g hk hka hl ry rv fun o s4 g4 I4 => ⟨σ, _, I4, q3 o g4⟩
theorem mix_key {P : Program} {w : World} {x : Str} {u : Value} (h : (mixKind P w).is (.inr x) u = true) : ∃ t, u = .str x t := by
  rcases keyIs_shape (show keyIs (.inr x) u = true from h) with ⟨i, t, e, _⟩ | ⟨z, t, e, rfl⟩
  · cases e
  · cases e
    exact ⟨t, rfl⟩
theorem ent_key {P : Program} {w : World} {e : DictEntry} {x : Str} {y : V} {v : Value} (h1 : (mixKind P w).is (.inr x) e.key = true) (h2 : e.val = v) (hh : ∃ k, (mixKind P w).is k e.key = true ∧ e.hash = (mixKind P w).hash k) (ry : RelV y v) :
    mEnt P w (.inl x, e.key, e.val) = e ∧ MR (.inl x, .str x, y) (.inl x, e.key, e.val) := by
  obtain ⟨k', b1, b2⟩ := hh
  have ek : k' = .inr x := (mixKind P w).inj _ _ _ b1 h1
  rw [ek] at b2
  refine ⟨?_, rfl, mix_key h1, by rw [h2]; exact ry⟩
  obtain ⟨eh, ekk, ev⟩ := e
  have b3 : eh = (mixKind P w).hash (.inr x) := b2
  rw [b3]
  rfl
theorem pairs_mx {P : Program} {w : World} (m : List (Str × V)) : ∀ {l : List DictEntry} {vs : List (L2.Key × Value)}, Pairs (mixKind P w) l vs → (∀ e ∈ l, ∃ k, (mixKind P w).is k e.key = true ∧ e.hash = (mixKind P w).hash k) → KV (m.map fun q => ((.inr q.1 : L2.Key), q.2)) vs →
    ∃ vs' : List (MK × Value × Value), l = vs'.map (mEnt P w) ∧ Paired MR (m.map fun q => ((.inl q.1 : MK), V.str q.1, q.2)) vs' := by
  induction m with
  | nil =>
    intro l vs hp hk rel
    cases rel
    cases hp
    exact ⟨[], rfl, .nil⟩
  | cons q m ih =>
    intro l vs hp hk rel
    cases rel with
    | @cons _ kv _ rest a b =>
      cases hp with
      | @cons e _ es _ h1 h2 r =>
        obtain ⟨vs', e1, e2⟩ := ih r (fun z hz => hk z (List.mem_cons_of_mem _ hz)) b
        obtain ⟨k, v⟩ := kv
        obtain ⟨a1, a2⟩ := a
        have a3 : k = .inr q.1 := a1.symm
        subst a3
        obtain ⟨z1, z2⟩ := ent_key h1 h2 (hk e (List.mem_cons_self ..)) a2
        exact ⟨(.inl q.1, e.key, e.val) :: vs', by rw [List.map_cons, z1, ← e1], .cons z2 e2⟩
theorem pe_mix {P : Program} {w : World} (hP : X.prog = P) (hw : X.w = w) {e : Expr} {t : TE} (he : PE X e t) : PE X e (tMix P w t) := by
  subst hP hw
  refine ⟨fun pins s σ H Q I h => ?_⟩
  refine thn (he.run pins s σ H _ I h) fun u s1 ⟨x, H1, I1, rx, d, kvs, ex, hd, m, em, q⟩ => ?_
  subst ex em
  obtain ⟨hl, hsm, vs, rel, o, es, ep, ho, hc, hdat, hko, hpr, hnd⟩ := dk_of I1.hok hd
  obtain ⟨vs', e1, e2⟩ := pairs_mx m hpr (fun e he => hko e (Array.mem_toList_iff.mp he)) rel
  have hn : ((m.map fun q => ((.inl q.1 : MK), V.str q.1, q.2)).map (·.1)).Nodup := by
    have h1 : (vs.map (·.1)) = m.map fun q => (.inr q.1 : L2.Key) := by rw [← rel.keys, List.map_map]; rfl
    rw [h1] at hnd
    rw [List.map_map]
    exact List.pairwise_map.mpr ((List.pairwise_map.mp hnd).imp fun n e => n (by rw [show _ = _ from Sum.inl.inj e]))
  have I2 : L2.Inv X pins σ (upd H1 d (MxO X.prog X.w d (m.map fun q => ((.inl q.1 : MK), V.str q.1, q.2)))) s1 :=
    Inv.write (t' := s1.toks) I1 (x := d) (e := d) (by rw [hd]; exact True.intro) (.inl rfl) (fun _ _ _ z => z) ⟨o, ho⟩ (mx_ok (by rw [List.length_map] at hl ⊢; exact hl) hsm hn e2 ⟨o, es, ep, ho, hc, hdat, e1⟩)
  refine ⟨.ref d, _, I2, rx, q _ ⟨⟨_, upd_same, fun y hy => ?_, by rw [List.map_map]; rfl⟩⟩⟩
  obtain ⟨z, _, rfl⟩ := List.mem_map.mp hy
  rfl
end
end Own
set_option Elab.async false
set_option linter.all false
set_option maxRecDepth 100000
set_option maxHeartbeats 2000000
/-! own classes: x + y, x & y by an own def; a static method; an exception of an own class without __init__ of its own, its base an own class, too -/
namespace Own
open PySem PySem.Spec PyProof.Rows L2
section
variable {X : Cx} {CX : CXT} {C f : Addr} {fd : FuncData} {ps : List Str} {n : Nat} {sp : Sp} {E : XK} {op : Operator}
/-- x op y by the def of x's class; what stands on the right is told by oth; the answer is an object -/
def rOp (C : Addr) (sp : Sp) (E : XK) (oth : V → Hp → Prop) : R2 := fun x y H Q => ∃ a dx fs, x = .ref a ∧ H a = some (.ins C dx fs) ∧ oth y H ∧ sp [x, y] H (fun v H' => ∃ p, v = .ref p ∧ Q (.ref p) H') E
/-- on the right an instance of the same class -/
def likeIt (C : Addr) : V → Hp → Prop := fun y H => ∃ b dy gs, y = .ref b ∧ H b = some (.ins C dy gs)
def intIt : V → Hp → Prop := fun y _ => ∃ i : Int, y = .int i
theorem op_like (F : FnOk X.prog X.w X.K X.mg X.base CX n f fd ps sp) (hs : PySem.W.findIn X.K (.ref C) (PySem.dunder op.info.2) = some (some (.ref f))) (hf : PySem.W.isFn X.K (.ref f) = true) (hc : PySem.W.selfFirst X.K C = true) (hb : L2.Binds X.K fd ps []) (hx : Passes CX X E) (hr : Room n X.A) :
    OpR X (binaryOp op) (rOp C sp E (likeIt C)) := by
  rintro pins s σ H x y u v Q I rx ry ⟨a, dx, fs, rfl, ha, ⟨b, dy, gs, rfl, hb2⟩, hsp⟩
  cases (show u = Value.ref a from rx)
  cases (show v = Value.ref b from ry)
  obtain ⟨mA, J, _⟩ := ins_get I.hok ha
  obtain ⟨mB, L, _⟩ := ins_get I.hok hb2
  obtain ⟨odA, J, _⟩ := J.look
  obtain ⟨odB, L, _⟩ := L.look
  obtain ⟨m, hF⟩ := I.fr
  show wpAny (model X.prog X.w) X.A (binaryOp op (.ref a) (.ref b)) (EP X pins σ Q) X.xe s
  refine PySem.W.binop_K hF I.ok.mod.kin J L.type hc hs hf ?_
  refine wpAny_mono (own_call F hb hx hr rfl I (x := .ref a) (y := .ref b) rfl rfl hsp) (fun r s' h => ?_) fun _ _ z => z
  obtain ⟨z, H', rz, I', p, rfl, q⟩ := h
  cases (show r = Value.ref p from rz)
  exact ⟨.ref p, H', I', rfl, q⟩
theorem op_intR {fo ro rc : Option Value} (F : FnOk X.prog X.w X.K X.mg X.base CX n f fd ps sp) (hs : PySem.W.findIn X.K (.ref C) (PySem.dunder op.info.2) = some (some (.ref f))) (hf : PySem.W.isFn X.K (.ref f) = true) (hc : PySem.W.selfFirst X.K C = true)
    (hrc : PySem.W.findIn X.K (.ref C) (dunderR op.info.2) = some none) (h1 : PySem.W.findIn X.K (.type "int") (PySem.dunder op.info.2) = some fo) (h2 : PySem.W.findIn X.K (.type "int") (dunderR op.info.2) = some ro) (hsub : PySem.W.subIn X.K (.type "int") (.ref C) = some false)
    (hb : L2.Binds X.K fd ps []) (hx : Passes CX X E) (hr : Room n X.A) : OpR X (binaryOp op) (rOp C sp E intIt) := by
  rintro pins s σ H x y u v Q I rx ry ⟨a, dx, fs, rfl, ha, ⟨i, rfl⟩, hsp⟩
  cases (show u = Value.ref a from rx)
  obtain ⟨t, rfl⟩ : ∃ t, v = Value.int i t := ry
  obtain ⟨mA, J, _⟩ := ins_get I.hok ha
  obtain ⟨odA, J, _⟩ := J.look
  obtain ⟨m, hF⟩ := I.fr
  show wpAny (model X.prog X.w) X.A (binaryOp op (.ref a) (.int i t)) (EP X pins σ Q) X.xe s
  refine PySem.W.ksp_binT hF I.ok.mod.kin J (T := "int") rfl hc hs hf hrc (.inl rfl) h1 h2 hsub ?_
  refine wpAny_mono (own_call F hb hx hr rfl I (x := .ref a) (y := .int i) rfl ⟨t, rfl⟩ hsp) (fun r s' h => ?_) fun _ _ z => z
  obtain ⟨z, H', rz, I', p, rfl, q⟩ := h
  cases (show r = Value.ref p from rz)
  exact ⟨.ref p, H', I', rfl, q⟩
end
/-! ### dicts -/
theorem hits_flatA {A : Around} {s : Shared} {ls : List (Key × V)} {vb : List (Key × Value)} (rb : KV ls vb) (fl : ∀ k u, valV ls k = some u → flatV u = true) {ks : List (Key × V)} {va : List (Key × Value)}
    (ra : KV ks va) : (∀ p ∈ ks, flatV p.2 = true) → PySem.W.KeqHits A s vb va (eqKv ks ls) := by
  unfold KV at ra
  induction ra with
  | nil => intro _; exact .nil
  | @cons p q ps qs h t k =>
    intro hp
    obtain ⟨h1, h2⟩ := h
    have rr : RelO (valV ls p.1) (valueAt vb p.1) := rb.val p.1
    obtain ⟨key, v⟩ := q
    have h1' : p.1 = key := h1
    have rest := k fun p' hm => hp p' (List.mem_cons_of_mem _ hm)
    cases e : valV ls p.1 with
    | none =>
      rw [e] at rr
      have hn : valueAt vb key = none := by
        rw [← h1']
        cases hv : valueAt vb p.1 with
        | none => rfl
        | some z => rw [hv] at rr; exact rr.elim
      have hb : eqKv (p :: ps) ls = false := by unfold eqKv; rw [List.all_cons, e]; rfl
      rw [hb]
      exact .miss hn
    | some u =>
      rw [e] at rr
      obtain ⟨y, hy, ry⟩ := rr.some_of
      rw [h1'] at hy
      have hb : eqKv (p :: ps) ls = (eqV p.2 u && eqKv ps ls) := by unfold eqKv; rw [List.all_cons, e]
      rw [hb]
      exact .hit hy (eqAt_V h2 ry (hp p List.mem_cons_self) (fl _ _ e)) rest
/-- a != b of dicts of flat things, any answer -/
def rNeDF : R2 := fun x y H Q => ∃ a b ks ls, x = .ref a ∧ y = .ref b ∧ H a = some (.dK ks) ∧ H b = some (.dK ls) ∧ (∀ p ∈ ks, flatV p.2 = true) ∧ (∀ k u, valV ls k = some u → flatV u = true) ∧ Q (.bl !(ks.length == ls.length && eqKv ks ls)) H
theorem op_neDF {X : Cx} (hu : X.A.units + 64 < cLine) : OpR X (compareOp .NotEq) rNeDF := by
  rintro pins s σ H x y v u Q I rx ry ⟨a, b, ks, ls, rfl, rfl, ha, hb, f1, f2, q⟩
  cases (show v = Value.ref a from rx)
  cases (show u = Value.ref b from ry)
  obtain ⟨_, ya, va, ra, da⟩ := (show ObjOk X.prog X.w H s.heap a (.dK ks) from I.hok a _ ha)
  obtain ⟨_, yb, vb, rb, db⟩ := (show ObjOk X.prog X.w H s.heap b (.dK ls) from I.hok b _ hb)
  have la : ks.length = va.length := by unfold KV at ra; exact ra.length
  have lb : ls.length = vb.length := by unfold KV at rb; exact rb.length
  refine PySem.W.keq_ne (knd := mixKind X.prog X.w) (r := eqKv ks ls) ya yb da db (by omega) (fun _ => hits_flatA rb f2 ra f1) ?_
  rw [← la, ← lb]
  exact ⟨.bl _, H, I, rfl, q⟩
/-! ### an exception without __init__ of its own -/
theorem pmk_bare {X : Cx} {C : Addr} {x : Str} {p pos : Pos} (q : PySem.W.excInitIn X.K C [.type "ValueError", .type "Exception", .type "BaseException", .type "object"] "ValueError.__new__" = true) (hi : PySem.W.findIn X.K (.ref C) "__init__" = some (some (.builtin "ValueError.__init__")))
    (gC : X.mg x = some (.ref C)) (kC : PySem.W.keepIn X.K (.ref C) = true) (r : Raises X (.ref C)) (hg : Gl X x) (hdb : (x == ("__debug__" : Str)) = false := by decide) : PMk X (.Call (.Name x p) [] [] pos) (fun _ H Q => Q (.ref C) none H) := by
  intro pins s σ H Q I h
  refine wpAny_Call_Name_kw (ld_glob I hg gC ?_ hdb)
  refine PySem.W.callWith_K0 (first := []) I.kIn kC ?_
  show wpAny _ _ (call (.ref C) []) _ _ _
  have KI := I.kIn
  obtain ⟨nm, N, qn, bs, bm, hd, sn, sub, ab, col, dd, k0, k1, k2, k3, k5, hC, hT⟩ := PySem.W.excInit_of KI q
  have bare := I.bare
  have hok := I.hok
  obtain ⟨hp, g, d, t, os⟩ := s
  refine PySem.W.call_B F.excBase_ValueError hT hC (PySem.W.looks_findIn KI hi) (Nat.zero_le _) (fun h' k e1 e2 => ?_)
  have nw : hp.get? (hp.objs.size + 1) = none := by
    cases z : hp.get? (hp.objs.size + 1) with
    | none => rfl
    | some o => exact absurd (Heap.lt_size z) (Nat.not_lt.mpr (Nat.le_succ _))
  exact ⟨_, _, _, ⟨hp, g, d, t, os⟩, H, .ref C, none, rfl, I, k, nw, e1, ⟨rfl, rfl⟩, rfl, rfl, hok.gone nw, rfl, bare, r, h⟩
/-! ### a static method by its class's name -/
/-- what the written part says of C.m, a static method around the def at f -/
structure StaM (K : PySem.W.Frag) (C : Addr) (m : Str) (f : Addr) : Prop where
  ty : PySem.W.typeIn K (.ref C) = some (.type "type")
  rd : PySem.W.readsIn K C (.type "type") = true
  sp : PySem.W.specialIn K (.ref C) "__getattribute__" = some (some (.builtin "type.__getattribute__"))
  at_ : ∃ p rest, PySem.W.findCls K (.ref C) (.type "type") m = some (.get (.builtin "staticmethod.__get__") (.ref p) .none (.ref C)) ∧ PySem.W.recIn K p "staticmethod" = some (.ref f :: rest)
  kp : PySem.W.keepIn K (.ref f) = true
def tSt (C : Addr) (sp : Sp) (E : XK) (ta : TE) (t : TA) : TE := fun σ H Q => ta σ H fun x H1 => x = .ref C ∧ t σ H1 fun vs H2 => sp vs H2 Q E
theorem pe_stm {X : Cx} {CX : CXT} {C f : Addr} {m : Str} {fd : FuncData} {ps : List Str} {k : Nat} {sp : Sp} {E : XK} {o e : Expr} {es : List Expr} {pos apos : Pos} {ta : TE} {t : TA} {pl : Sem Bool} (he : PE X o ta) (M : StaM X.K C m f) (F : FnOk X.prog X.w X.K X.mg X.base CX k f fd ps sp) (hr : Room k X.A)
    (hb : L2.Binds X.K fd ps []) (hx : Passes CX X E) (ha : PA X (e :: es) t) (hst : starEach (e :: es) X.env = (false, eval e X.env) :: starEach es X.env := by rfl) (hpl : (backTo pos (starEach es X.env)).any (·.1) = false := by rfl)
    (ht : eval (.Call (.Attribute o m apos) (e :: es) [] pos) X.env = (do
      let cv ← eval o X.env
      standAt apos.atName
      let (f, first) ← holding [cv] (getMethod cv m pl)
      callWith pos f first (backTo pos (starEach (e :: es) X.env)) (backToKw pos (keywordEach [] X.env))) := by rfl) : PE X (.Call (.Attribute o m apos) (e :: es) [] pos) (tSt C sp E ta t) := by
  refine ⟨fun pins s σ H Q I h => ?_⟩
  refine PySem.W.methodCall_KW (pl := pl) (thn (he.run pins s σ H _ I h) fun u s1 ⟨x, H1, I1, rx, ex, q⟩ => ?_) ht
  subst ex
  obtain rfl : u = Value.ref C := rx
  obtain ⟨p, rest, hc, hrec⟩ := M.at_
  obtain ⟨m1, hF⟩ := I1.fr
  refine PySem.W.method_of_cls hF I1.ok.mod.kin M.sp (PySem.W.cls_sm hF I1.ok.mod.kin M.ty M.rd hc hrec rfl ?_)
  have I2 : L2.Inv X pins σ H1 { s1 with toks := s1.toks + 1 } := I1.kept (t' := s1.toks + 1) fun _ _ z => z
  refine PySem.W.callWith_K (first := []) (h₀ := X.base) I1.ok.mod.kin M.kp (thn (ha.run pos pins _ σ H1 _ I2 q) fun us s2 ⟨vs, H2, I3, r, q2⟩ => ⟨I3.kIn, ?_⟩) hst hpl
  exact run_fn (ds := []) (dvs := []) F hr hb .nil hx I3 r (by rw [List.append_nil]; exact q2)
end Own
set_option Elab.async false
set_option linter.all false
set_option maxRecDepth 100000
set_option maxHeartbeats 2000000
/-! try: several clauses, some with a name -/
namespace Own
open PySem PySem.Spec PyProof.Rows L2
theorem int_add {K : PySem.W.Frag} : PySem.W.findIn K (.type "int") (PySem.dunder (Operator.info .Add).2) = some (some (.builtin "int.__add__")) := by
  show PySem.fastLookup "int" _ = _
  kernel_rfl
theorem int_radd {K : PySem.W.Frag} : PySem.W.findIn K (.type "int") (dunderR (Operator.info .Add).2) = some (some (.builtin "int.__radd__")) := by
  show PySem.fastLookup "int" _ = _
  kernel_rfl
/-- an except clause: the class, the slot of its name if it has one, its suite -/
structure Clause where
  ex : Value
  slot : Option Nat
  act : Addr → Value → Option Addr → TS
/-- the ends of a suite behind which a name goes -/
def dropAt (i : Nat) (D : Ends) : Ends where
  nx := fun σ H => D.nx (σ.set i none) H
  rt := D.rt
  bk := fun σ H => D.bk (σ.set i none) H
  ct := fun σ H => D.ct (σ.set i none) H
def suiteOf (k : Clause) (a : Addr) (c : Value) (d : Option Addr) (D : Ends) (σ : L2.St) (H : Hp) : Prop := match k.slot with
  | none => k.act a c d D σ H
  | some i => k.act a c d (dropAt i D) (σ.set i (some (.ref a))) H
/-- the first clause that matches is done; none: the wish without -/
def wCl (K : PySem.W.Frag) (Wo : WX) (D : Ends) : List Clause → WX
  | [] => Wo
  | k :: r => fun c d σ H => ∃ b, PySem.W.exmOne K c k.ex = some b ∧ (b = true → ∀ a, H a = none → suiteOf k a c d D σ H) ∧ (b = false → wCl K Wo D r c d σ H)
def SuiteOk (X : Cx) (st : List Stmt) (ts : Addr → Value → Option Addr → TS) : Prop :=
  ∀ (a : Addr) (oe : Obj) (cls : Value) (d : Option Addr) (pn : List (Addr × Obj)), Zc cls d oe → (∃ fs, oe.data = .fields fs) → PSs (X.suite a ((a, oe) :: pn)) st (ts a cls d)
inductive Clauses (X : Cx) : List ExceptHandler → List Clause → Prop
  | nil : Clauses X [] []
  | plain {x : Str} {c : Value} {ts : Addr → Value → Option Addr → TS} {b : Stmt} {su : List Stmt} {np ps : Pos} {r : List ExceptHandler} {l : List Clause} (hc : Names X x c) (hu : SuiteOk X (b :: su) ts) (hr : Clauses X r l) :
      Clauses X (.ExceptHandler (some (.Name x np)) none (b :: su) ps :: r) (⟨c, none, ts⟩ :: l)
  | named {x n : Str} {i : Nat} {c : Value} {ts : Addr → Value → Option Addr → TS} {b : Stmt} {su : List Stmt} {np ps : Pos} {r : List ExceptHandler} {l : List Clause} (hi : X.N[i]? = some n) (hk : X.env.kindOf n = some .local) (hc : Names X x c) (hu : SuiteOk X (b :: su) ts) (hr : Clauses X r l) :
      Clauses X (.ExceptHandler (some (.Name x np)) (some n) (b :: su) ps :: r) (⟨c, some i, ts⟩ :: l)
section
variable {X : Cx} {pins : List (Addr × Obj)} {σ : L2.St} {H : Hp} {D : Ends} {Wo : WX} {sI s3 : Shared} {a : Addr} {B : Heap} {cls : Value} {d : Option Addr}
/-- what stands when an error has come to the try's clauses -/
structure Come (X : Cx) (pins : List (Addr × Obj)) (σ : L2.St) (H : Hp) (Wo : WX) (sI s3 : Shared) (a : Addr) (B : Heap) (cls : Value) (d : Option Addr) : Prop where
  ok : X.Ok
  stk : X.stack = X.env :: X.outer
  loc : X.env.frame = some X.env.locals
  nd : X.N.Nodup
  tk : Takes X Wo
  was : L2.Inv X pins σ H sI
  low : ∀ b o, sI.heap.get? b = some o → b ∉ frs X.stack → B.get? b = some o
  up : sI.heap.UpToSlots s3.heap
  fly : HandSPX.FlyingZ B (X.env :: X.outer) a (Zc cls d) s3.heap
  free : H a = none
  os : s3.os = sI.os
  bare : AllBare s3.gens
theorem Come.inv (c : Come X pins σ H Wo sI s3 a B cls d) : L2.Inv X pins σ H s3 := c.was.landed c.low c.fly.1 c.up c.os c.bare
theorem Come.on (c : Come X pins σ H Wo sI s3 a B cls d) {h : Heap} (f : HandSPX.FlyingZ B (X.env :: X.outer) a (Zc cls d) h) (u : s3.heap.UpToSlots h) : Come X pins σ H Wo sI { s3 with heap := h } a B cls d :=
  { c with up := c.up.trans u, fly := f }
theorem Come.suite (c : Come X pins σ H Wo sI s3 a B cls d) : ∃ oe fs, s3.heap.get? a = some oe ∧ Zc cls d oe ∧ oe.data = .fields fs ∧ L2.Inv (X.suite a ((a, oe) :: (X.pn ++ pins))) [] σ H s3 := by
  obtain ⟨oe, fs, g1, g2, g3⟩ := c.fly.there
  have off : a ∉ frs (X.env :: X.outer) := fun m => by
    obtain ⟨_, u, g4, no⟩ := c.fly.2.2.1.mem m
    rw [g1] at g4
    exact no fs (by rw [← Option.some.inj g4]; exact g3)
  refine ⟨oe, fs, g1, g2, g3, c.inv.suite g1 g3 c.free (fun z => off ?_) fun m => off ?_⟩
  · exact List.mem_filterMap.mpr ⟨X.env, List.mem_cons_self, by rw [c.loc, z]⟩
  · obtain ⟨e, m1, m2⟩ := List.mem_filterMap.mp m
    exact List.mem_filterMap.mpr ⟨e, List.mem_cons_of_mem _ m1, m2⟩
/-- the clause's class is looked at -/
theorem Come.test (c : Come X pins σ H Wo sI s3 a B cls d) {x : Str} {np : Pos} {k : Value} (hn : Names X x k) {Q E : Value → Shared → Prop} (q : Q k s3) : wpAny (model X.prog X.w) (X.A.mark (some (.ref a))) (eval (.Name x np) X.env) Q E s3 := by
  obtain ⟨oe, fs, _, _, _, J⟩ := c.suite
  obtain ⟨h1, h2, h3 | ⟨h3, h4, h5⟩⟩ := hn
  · exact ld_glob (X := X.suite a ((a, oe) :: (X.pn ++ pins))) J h1 h3 q h2
  · exact ld_blt (X := X.suite a ((a, oe) :: (X.pn ++ pins))) J h1 h3 h4 q h5 h2
theorem Come.match_ (c : Come X pins σ H Wo sI s3 a B cls d) {k : Value} {b : Bool} (e : PySem.W.exmOne X.K cls k = some b) {Q : Bool → Shared → Prop} {E : Value → Shared → Prop} {A : Around} (q : Q b s3) : wpAny (model X.prog X.w) A (excMatches (.ref a) k) Q E s3 := by
  obtain ⟨oe, fs, g1, g2, _, J⟩ := c.suite
  exact (PySem.W.exm_one (M := model X.prog X.w) J.kIn (fun _ _ _ _ kk q => wpAny_typeOf_ref (kk _ _ g1) (by rw [g2.1]; exact q)) e).here q
theorem Come.go (c : Come X pins σ H Wo sI s3 a B cls d) {hds : List ExceptHandler} {l : List Clause} (hh : Clauses X hds l) : wCl X.K Wo D l cls d σ H → wpAny (model X.prog X.w) X.A (handleBy (.ref a) X.env hds) (SP X pins D) X.xe s3 := by
  induction hh with
  | nil =>
    intro w
    refine wpAny_handleBy_nil ?_
    have f := c.fly
    obtain ⟨_, _, _, oe, fs, T, oT, ts, g1, g2, g3, g4, _⟩ := id f
    unfold PySem.passOn
    refine wpAny_bind (wpAny_field g1 g3 g4 ?_)
    rw [if_neg (by simp : ¬ ((Value.ref T == Value.none) = true))]
    have out : wpAny (model X.prog X.w) X.A (setFlight (.ref a) X.env.frame) (fun _ s4 => wpAny (model X.prog X.w) X.A (throw (.ref a) : Sem Flow) (SP X pins D) X.xe s4) X.xe s3 := by
      rw [c.loc]
      refine HandSPX.setFlight_upZ f fun h4 held u4 => wpAny_throw (c.tk _ _ ⟨a, B, sI, pins, σ, H, cls, d, rfl, c.was, c.low, c.up.trans u4, .inr (.inr ?_), c.free, c.os, c.bare, w⟩)
      rw [c.stk]; exact held
    first
      | exact wpAny_bind (wpAny_pure (wpAny_bind out))
      | exact wpAny_bind out
  | @plain x k ts b su np ps r l hc hu hr ih =>
    intro ⟨m, e, yes, no⟩
    refine wpAny_handleBy_cons (codeAny_handlers_test (c.test hc (c.match_ e ?_))) (fun z => by cases z)
    cases m with
    | false => exact ih (no rfl)
    | true =>
      refine codeAny_handlers_suite (HandSPX.lands_againZ c.fly fun h4 f4 u4 => ?_)
      obtain ⟨oe, fs, g1, g2, g3, J⟩ := (c.on f4 u4).suite
      refine wpAny_mono ((hu a oe cls d (X.pn ++ pins) g2 ⟨fs, g3⟩).run [] _ σ H D J (yes rfl a c.free)) (fun fl s6 z => ?_) fun _ _ z => z.elim
      cases fl with
      | ret u =>
        obtain ⟨v, σ6, H6, J6, rv, q⟩ := z
        exact ⟨v, σ6, H6, J6.unsuite c.ok, rv, q⟩
      | next => exact z.imp fun σ6 z => z.imp fun H6 z => ⟨z.1.unsuite c.ok, z.2⟩
      | brk => exact z.imp fun σ6 z => z.imp fun H6 z => ⟨z.1.unsuite c.ok, z.2⟩
      | cont => exact z.imp fun σ6 z => z.imp fun H6 z => ⟨z.1.unsuite c.ok, z.2⟩
  | @named x n i k ts b su np ps r l hi hk hc hu hr ih =>
    intro ⟨m, e, yes, no⟩
    refine wpAny_handleBy_cons (codeAny_handlers_test (c.test hc (c.match_ e ?_))) (fun z => by cases z)
    cases m with
    | false => exact ih (no rfl)
    | true =>
      refine codeAny_handlers_suite_as (HandSPX.lands_againZ c.fly fun h4 f4 u4 => ?_)
      obtain ⟨oe, fs, g1, g2, g3, J⟩ := (c.on f4 u4).suite
      refine store_ok (X := X.suite a ((a, oe) :: (X.pn ++ pins))) (v := .ref a) J c.nd hi (.inl hk) rfl (fun s5 J5 => ?_) (.inr hk)
      refine wpAny_mono ((hu a oe cls d (X.pn ++ pins) g2 ⟨fs, g3⟩).run [] s5 _ H (dropAt i D) J5 (yes rfl a c.free)) (fun fl s6 z => ?_) fun _ _ z => z.elim
      have gone : ∀ {σ6 : L2.St} {H6 : Hp} {Q : Shared → Prop}, L2.Inv (X.suite a ((a, oe) :: (X.pn ++ pins))) [] σ6 H6 s6 → (∀ s7, L2.Inv X pins (σ6.set i none) H6 s7 → Q s7) →
          wpAny (model X.prog X.w) X.A (do bindName X.env n .none; unbindBehindTheSuite X.env n ps) (fun _ s7 => Q s7) X.xe s6 := fun J6 q => gone_ok (J6.unsuite c.ok) c.nd hi hk q
      cases fl with
      | ret u =>
        obtain ⟨v, σ6, H6, J6, rv, q⟩ := z
        exact gone J6 fun s7 J7 => ⟨v, _, H6, J7, rv, q⟩
      | next => obtain ⟨σ6, H6, J6, q⟩ := z; exact gone J6 fun s7 J7 => ⟨_, H6, J7, q⟩
      | brk => obtain ⟨σ6, H6, J6, q⟩ := z; exact gone J6 fun s7 J7 => ⟨_, H6, J7, q⟩
      | cont => obtain ⟨σ6, H6, J6, q⟩ := z; exact gone J6 fun s7 J7 => ⟨_, H6, J7, q⟩
end
/-- try: body except X as n: .. except Y: .. -/
theorem ps_clauses {X : Cx} {body : List Stmt} {h0 : ExceptHandler} {hds : List ExceptHandler} {l : List Clause} {pos : Pos} {tb : WX → TS} {Wo : WX} (hs : X.stack = X.env :: X.outer) (hf : X.env.frame = some X.env.locals) (nd : X.N.Nodup) (tk : Takes X Wo)
    (hb : ∀ (W : WX) (pn : List (Addr × Obj)) (xe : Value → Shared → Prop), Takes (X.tr pn xe) W → PassesOwn (model X.prog X.w) X.A X.env xe → PSs (X.tr pn xe) body (tb W))
    (hh : Clauses X (h0 :: hds) l) : PS X (.Try body (h0 :: hds) [] [] pos) (fun D σ H => tb (wCl X.K Wo D l) D σ H) := by
  refine ⟨fun pins s σ H D I h => ?_⟩
  have okX := I.ok
  refine wpAny_Try_except (wpAny_mono ((hb (wCl X.K Wo D l) (X.pn ++ pins) (fun e s1 => wpAny (model X.prog X.w) X.A (noteFrame e X.env) (fun _ s2 => wpAny (model X.prog X.w) X.A (setFlight e none) (fun _ s3 =>
    wpAny (model X.prog X.w) X.A (handleBy e X.env (h0 :: hds)) (SP X pins D) X.xe s3) X.xe s2) X.xe s1) (fun u s1 z => ?_) PassesOwn.looking).run [] s σ H D (I.toTry _) h) (fun fl s1 z => ?_) fun e s1 z => z)
  · obtain ⟨a, B, sI, ps, σ1, H1, cls, d, rfl, J, low, up, sky, free, os, bare, w⟩ := z
    have K1 := J.ofTry okX
    have sk : Sky B (X.env :: X.outer) a (Zc cls d) X.env.locals s1.heap := by rw [← hs]; exact sky
    show wpAny (model X.prog X.w) X.A (noteFrame (.ref a) X.env) _ _ _
    refine Sky.land Zc.steady (by rw [okX.frames, hs]) hf sk fun h3 f3 u3 => ?_
    exact Come.go (sI := sI) (s3 := { s1 with heap := h3 }) (B := B) (Wo := Wo) ⟨okX, hs, hf, nd, tk, K1, low, up.trans u3, f3, free, os, bare⟩ hh w
  · cases fl with
    | next =>
      obtain ⟨σ1, H1, J, q⟩ := z
      exact wpAny_execs_nil ⟨σ1, H1, J.ofTry okX, q⟩
    | ret u =>
      obtain ⟨v, σ1, H1, J, rv, q⟩ := z
      exact ⟨v, σ1, H1, J.ofTry okX, rv, q⟩
    | brk => obtain ⟨σ1, H1, J, q⟩ := z; exact ⟨σ1, H1, J.ofTry okX, q⟩
    | cont => obtain ⟨σ1, H1, J, q⟩ := z; exact ⟨σ1, H1, J.ofTry okX, q⟩
end Own
set_option Elab.async false
set_option linter.all false
set_option maxRecDepth 100000
set_option maxHeartbeats 2000000
namespace Own
open PySem PySem.Spec PyProof.Rows L2
/-! ### o[i] with an own __getitem__ -/
def tItm (C : Addr) (sp : Sp) (E : XK) (ta tb : TE) : TE := tOp (fun x y H Q => ∃ a dx fs, x = V.ref a ∧ H a = some (.ins C dx fs) ∧ sp [x, y] H Q E) ta tb
theorem pe_itm {X : Cx} {CX : CXT} {C f : Addr} {fd : FuncData} {ps : List Str} {n : Nat} {sp : Sp} {E : XK} {a b : Expr} {ta tb : TE} {pos : Pos} (ha : PE X a ta) (F : FnOk X.prog X.w X.K X.mg X.base CX n f fd ps sp)
    (hs : PySem.W.findIn X.K (.ref C) "__getitem__" = some (some (.ref f))) (hfi : PySem.W.fnIn X.K f = true) (hf : PySem.W.isFn X.K (.ref f) = true) (hb : L2.Binds X.K fd ps []) (hx : Passes CX X E) (hr : Room (n + 1) X.A) (hp : PE X b tb)
    (hsl : ∀ o i, subscripted b true o i = runValue (.builtin "lifetime.subscript" ⟨[o, i], []⟩)) : PE X (.Subscript a b pos) (tItm C sp E ta tb) := by
  refine ⟨fun pins s σ H Q I h => ?_⟩
  refine Subscript_ (binT ha hp I h fun v u s2 x y H2 I2 rx ry q => ?_)
  obtain ⟨p, dx, fs, ex, hp2, hsp⟩ := q
  subst ex
  cases (show v = Value.ref p from rx)
  obtain ⟨mA, J, _⟩ := ins_get I2.hok hp2
  obtain ⟨od, J, _⟩ := J.look
  obtain ⟨m, hF⟩ := I2.fr
  refine PySem.W.sub_K hF I2.ok.mod.kin J hs hfi hf ?_ (hsl _ _)
  refine wpAny_mono (own_call F hb hx hr.in1 rfl I2 (x := .ref p) rfl ry hsp) (fun w s' h => ?_) fun _ _ h => h
  obtain ⟨z, H', rz, I', q⟩ := h
  exact ⟨z, H', I', rz, q⟩
/-! ### a, b = a list or a tuple -/
theorem pg_lt {X : Cx} {pos : Pos} {es : List Expr} {k : Nat} {t : TGs} {n : Nat} (hc : X.calm = true) (h : PGs X es t)
    (hn : (assignEach es X.env).length = n := by rfl) (hst : (assignEach es X.env).findIdx? (·.1) = none := by rfl) : PG X (.Tuple es k pos) (fun v σ H Q => gLst X.K n t v σ H Q ∨ gTup X.K n t v σ H Q) := by
  refine ⟨fun pins s σ H v u Q I r hw => ?_⟩
  rcases hw with hw | hw
  · exact (pg_lst hc h hn hst).run pins s σ H v u Q I r hw
  · exact (pg_tup hc h hn hst).run pins s σ H v u Q I r hw
end Own
namespace Own
open PySem PySem.Spec PyProof.Rows L2
def rIxLT (K : PySem.W.Frag) : R2 := fun x y H Q => rIxL K x y H Q ∨ rIxT K x y H Q
theorem ixLtOf {X : Cx} {K : PySem.W.Frag} (h : X.K = K) : IxR X (rIxLT K) := h ▸ ix_list.or ix_tup
end Own
set_option Elab.async false
set_option linter.all false
set_option maxRecDepth 100000
set_option maxHeartbeats 2000000
/-! == and != of own instances inside of a comprehension -/
namespace Own
open PySem PySem.Spec PyProof.Rows L2
variable {X : Cx} {CX : CXT} {K : PySem.W.Frag} {C f : Addr} {fd : FuncData} {ps : List Str} {n : Nat} {sp : Sp} {E : XK}
theorem eqOwnOf (hK : X.K = K) (F : FnOk X.prog X.w X.K X.mg X.base CX n f fd ps sp) (hs : PySem.W.findIn X.K (.ref C) "__eq__" = some (some (.ref f))) (hf : PySem.W.isFn X.K (.ref f) = true) (hb : L2.Binds X.K fd ps []) (hx : Passes CX X E) (hr : Room n X.A) :
    OpR X (compareOp .Eq) (rOwn K C sp E false) := by
  subst hK
  exact op_eqOwn F hs hf hb hx hr
theorem neOwnOf (hK : X.K = K) (F : FnOk X.prog X.w X.K X.mg X.base CX n f fd ps sp) (hne : PySem.W.findIn X.K (.ref C) "__ne__" = some (some (.builtin "object.__ne__"))) (hm : PySem.W.mroIn X.K C (.type "object") = some true)
    (hs : PySem.W.findIn X.K (.ref C) "__eq__" = some (some (.ref f))) (hf : PySem.W.isFn X.K (.ref f) = true) (hb : L2.Binds X.K fd ps []) (hx : Passes CX X E) (hr : Room (n + 1) X.A) :
    OpR X (compareOp .NotEq) (rOwn K C sp E true) := by
  subst hK
  exact op_neOwn F hne hm hs hf hb hx hr
end Own
set_option Elab.async false
set_option linter.all false
set_option maxRecDepth 100000
set_option maxHeartbeats 3200000
/-! set(xs) of texts, no two alike; its len -/
namespace Own
open PySem PySem.Spec PyProof.Rows L2
section
variable {prog : Program} {w : World} {A : Around} {E : Value → Shared → Prop} {s : Shared}
theorem memS {xs : List Str} {i : Nat} {x : Str} (e : xs[i]? = some x) (k : Str) : (decide (k ∈ xs.take i) || decide (k = x)) = decide (k ∈ xs.take (i + 1)) := by
  rw [List.take_succ, e, Bool.eq_iff_iff]
  simp [List.mem_append]
theorem fill_texts {I S : Addr} {fp wr : List Addr} {G : Array GenState → Array GenState → Prop} {n : Nat} {P : Nat → Value → Prop} {St : Nat → Shared → Prop} {R : Result → Shared → Prop} (W : WalksS prog w A.in1 I fp wr G n P St) (off : S ∉ fp)
    {xs : List Str} (len : xs.length = n) (nd : xs.Nodup) (few : n ≤ 64) (val : ∀ i v, P i v → ∃ x t, xs[i]? = some x ∧ v = .str x t) (out : ∀ s', Moved (S :: wr) G s s' → s'.heap.SetOf (strKind prog w) S (fun k => decide (k ∈ xs)) n → R (.ok (.ret .none)) s') :
    ∀ (m i : Nat) (z : Shared), i + m = n → St i z → z.heap.SetOf (strKind prog w) S (fun k => decide (k ∈ xs.take i)) i → (∀ z', Moved (S :: wr) G z z' → Moved (S :: wr) G s z') → codeAny (model prog w) A (.builtin "set.update.loop" ⟨[.ref S, .ref I], []⟩) R z
  | 0, i, z, hi, st, hs, back => by
    obtain rfl : i = n := hi
    refine codeAny_builtin F.entry_set_update_loop ?_
    rw [Around.under_plainId F.plain_set_update_loop _]
    refine wpAny_bind (m := pyNext (.ref I)) (W.done z _ _ st fun z' mv => wpAny_pure (out z' (back _ (mv.mono fun b hb => .tail _ hb)) ?_))
    obtain ⟨o, es, ep, t, ho, rest⟩ := hs
    rw [List.take_of_length_le (Nat.le_of_eq len)] at rest
    exact ⟨o, es, ep, t, mv.heap S _ (fun y => off (W.sub _ y)) ho, rest⟩
  | m + 1, i, z, hi, st, hs, back => by
    have lt : i < n := by omega
    refine codeAny_builtin F.entry_set_update_loop ?_
    rw [Around.under_plainId F.plain_set_update_loop _]
    refine wpAny_bind (m := pyNext (.ref I)) (W.item i z _ _ lt st fun v z' hp st' mv => ?_)
    obtain ⟨x, t, ex, rfl⟩ := val i v hp
    have old : z'.heap.SetOf (strKind prog w) S (fun k => decide (k ∈ xs.take i)) i := by
      obtain ⟨o, es, ep, tb, ho, rest⟩ := hs
      exact ⟨o, es, ep, tb, mv.heap S _ (fun y => off (W.sub _ y)) ho, rest⟩
    refine wpAny_bind (wpAny_holding (m := setAdd S (.str x t)) (wpAny_holding (wpAny_bind ((strKind prog w).pyHash (k := x) (strKind_is _ _ _ _) ?_))))
    refine wpAny_setAddHashed_of (knd := strKind prog w) (s := { z' with toks := z'.toks + 1 }) (strKind_is _ _ _ _) rfl old (by unfold scanBound; omega) fun h' only more => ?_
    have il : i < xs.length := by omega
    have fresh : x ∉ xs.take i := fun y => by
      obtain ⟨j, hj, e⟩ := List.getElem_of_mem y
      rw [List.length_take] at hj
      rw [List.getElem_take] at e
      rw [List.getElem?_eq_getElem il] at ex
      have := (List.getElem_inj nd).mp (e.trans (Option.some.inj ex).symm)
      omega
    have now : h'.SetOf (strKind prog w) S (fun k => decide (k ∈ xs.take (i + 1))) (i + 1) := SetOf_congr more (fun k => memS ex k) (by rw [decide_eq_false fresh]; rfl)
    refine wpAny_pure ⟨plainId_quiet F.plain_set_update_loop _, fill_texts W off len nd few val out m (i + 1) _ (by omega) (W.frame _ z' _ _ st' (Nat.le_succ _) fun b hb o e => ?_) now fun z2 mv2 => back _ (Moved.trans W.gtrans ((mv.mono fun b hb => .tail _ hb).then_heap (Nat.le_succ _) fun b o hb e => ?_) mv2)⟩
    · exact (only.2 b fun y => off (y ▸ hb)).trans e
    · exact (only.2 b fun y => hb (y ▸ .head _)).trans e
abbrev newSet (led : Bool) : Obj := { cls := .type "set", dict := none, data := .set #[] 0 (.fresh 0 0 led) }
/-- set(a): what is left is its __init__ -/
theorem set_called {a : Value} {Q : Value → Shared → Prop}
    (go : ∀ led : Bool, wpAny (model prog w) A.in1.in1 (Builtin.«set.__init__» ⟨[.ref s.heap.objs.size, a], []⟩) (fun fin z => match fin with | .done f => wants (fun r z => r = .none ∧ Q (.ref s.heap.objs.size) z) E (.ok f) z | .again c => c.quiet = true ∧ codeAny (model prog w) A.in1 c (wants (fun r z => r = .none ∧ Q (.ref s.heap.objs.size) z) E) z)
      (fun e z => wants (fun r z => r = .none ∧ Q (.ref s.heap.objs.size) z) E (.error e) z) { s with heap := s.heap.push (newSet led) }) : wpAny (model prog w) A (call (.type "set") [a]) Q E s := by
  obtain ⟨_, _, q1⟩ := F.called_set.mro
  have q2 := F.called_set.made
  have q3 := F.called_set.sub
  refine wpAny_call (codeAny_of_tree (show wpAny _ _ (callAny (.type "set") _) _ _ _ from wpAny_pure ⟨Code.quiet_builtin _ (by decide +kernel), codeAny_builtin F.entry_type_call ?_⟩))
  rw [Around.under_plain (weight_type_call_type "set" [a] []) rfl]
  have q4 := F.called_set.notType
  have q5 := F.called_set.canCreate
  have q6 := F.typeCall_set_1 a
  repeat (any_goals (first | assumption | wp_step))
  refine codeAny_mono (code_set_new_1 a (E := E) (Q₁ := fun ob z => ∃ led : Bool, ob = .ref s.heap.objs.size ∧ z = { s with heap := s.heap.push (newSet led) }) fun led => ⟨led, rfl, rfl⟩) fun r z hz => ?_
  match r, hz with
  | .error e, hz => exact hz
  | .ok (.ret ob), ⟨led, e1, e2⟩ =>
    subst e1
    subst e2
    have ty : Shared.TypeIs { s with heap := s.heap.push (newSet led) } (.ref s.heap.objs.size) "set" := ⟨_, Heap.get?_push_size _ rfl, rfl⟩
    have q7 := F.called_set.init.lookup
    have q8 := F.called_set.init.bind (.ref s.heap.objs.size)
    repeat (any_goals (first | assumption | wp_step))
    refine codeAny_mono (codeAny_call_builtin F.called_set.init.plain F.entry_set_init (check_set_init_1 ty (go led))) fun r2 z2 hz2 => ?_
    match r2, hz2 with
    | .error e, hz2 => exact hz2
    | .ok (.ret v), ⟨e1, hq⟩ =>
      subst e1
      repeat (any_goals (first | assumption | wp_step))
    | .ok .next, hz2 => exact hz2.elim
    | .ok .brk, hz2 => exact hz2.elim
    | .ok .cont, hz2 => exact hz2.elim
  | .ok .next, hz => exact hz.elim
  | .ok .brk, hz => exact hz.elim
  | .ok .cont, hz => exact hz.elim
theorem made_texts {l : Addr} {items : Array Value} {xs : List Str} {Q : Value → Shared → Prop} (hh : A.handled = none) (hl : s.heap.IsList l items ∨ s.heap.IsTuple l items) (hi : StrsAre items.toList xs) (nd : xs.Nodup) (few : xs.length ≤ 64)
    (h : ∀ (h' : Heap) (tk : Nat), h'.SetOf (strKind prog w) s.heap.objs.size (fun k => decide (k ∈ xs)) xs.length → (∀ b o, s.heap.get? b = some o → h'.get? b = some o) → Q (.ref s.heap.objs.size) { s with heap := h', toks := tk }) :
    wpAny (model prog w) A (call (.type "set") [.ref l]) Q E s := by
  have sz : xs.length = items.size := by rw [← StrsAre.len_eq hi, Array.length_toList]
  have val : ∀ (i : Nat) (v : Value), items[i]? = some v → ∃ x t, xs[i]? = some x ∧ v = .str x t := fun i v hv => by
    have lt : i < xs.length := by
      have := (Array.getElem?_eq_some_iff.mp hv).1
      omega
    obtain ⟨t, e⟩ := SS.strs_at hi i v (by rw [Array.getElem?_toList]; exact hv)
    refine ⟨xs[i], t, List.getElem?_eq_getElem lt, ?_⟩
    rw [e, List.getD_eq_getElem?_getD, List.getElem?_eq_getElem lt]; rfl
  refine set_called fun led => ?_
  have n3 : A.in1.in1.in1.handled = none := by simp [hh]
  rcases hl with hl | hl
  · have q1 := F.sub_list_set
    have q2 := F.sub_list_frozenset
    have q3 : (Value.type "list" == Value.type "dict") = false := by decide
    obtain ⟨ob, ho, hc, nl, hd⟩ := hl
    obtain ⟨cl, od, da, sl⟩ := ob
    dsimp only at hc hd
    subst hc
    subst hd
    have lo := Heap.lt_size ho
    have ho2 : (s.heap.push (newSet led)).get? l = some { cls := .type "list", dict := od, data := .seq items nl, slots := sl } := Heap.get?_push_of_some _ ho
    have at_ : (s.heap.push (newSet led)).IsList l items := ⟨_, ho2, rfl, nl, rfl⟩
    unfold Builtin.«set.__init__» noKeywords Builtin.Frozenset.updateFrom
    generalize hPI : pyIter = PI
    wp_walk
    subst hPI
    refine wpAny_pyIter_list at_ (wpAny_bind (wpAny_runValue ?_))
    have off : l ≠ (s.heap.push (newSet led)).objs.size := by rw [Heap.size_push]; exact Nat.ne_of_lt (Nat.lt_succ_of_lt lo)
    have off2 : s.heap.objs.size ∉ [(s.heap.push (newSet led)).objs.size, l] := by
      rw [Heap.size_push]
      exact fun m => (List.mem_cons.mp m).elim (Nat.ne_of_lt (Nat.lt_succ_self _)) fun m => Nat.ne_of_gt lo (List.mem_singleton.mp m)
    refine fill_texts ((Walks.list n3 _ l off items).toS) off2 sz nd (by omega) val (fun z' mv hz' => ?_) _ 0 _ (Nat.zero_add _) ⟨⟨_, Heap.get?_push_size _ rfl, rfl, rfl⟩, at_.push _⟩ ?_ fun _ mv => mv
    · obtain ⟨h', g', d', tk', os'⟩ := z'
      obtain rfl : g' = s.gens := mv.gens
      obtain rfl : d' = s.drawn := mv.drawn
      obtain rfl : os' = s.os := mv.os
      show wpAny _ _ _ _ _ _
      refine wpAny_pure ?_
      show wpAny _ _ (ret Value.none) _ _ _
      refine wpAny_pure ⟨rfl, h h' tk' (by rw [sz]; exact hz') fun b o e => ?_⟩
      have lb := Heap.lt_size e
      refine mv.heap b o (fun m => ?_) (Heap.get?_push_of_some _ (Heap.get?_push_of_some _ e))
      rcases List.mem_cons.mp m with m | m
      · exact Nat.ne_of_lt lb m
      · rw [Heap.size_push] at m
        exact Nat.ne_of_lt (Nat.lt_succ_of_lt lb) (List.mem_singleton.mp m)
    · have got : ((s.heap.push (newSet led)).push { cls := .type "list_iterator", data := .fields #[.ref l, .int 0 0] }).get? s.heap.objs.size = some (newSet led) := Heap.get?_push_of_some _ (Heap.get?_push_size _ rfl)
      exact SetOf_congr ((setObjOf_fresh (knd := strKind prog w) led).setOf got (by unfold scanBound; omega)) (fun k => by simp) rfl
  · have q1 := F.sub_tuple_set
    have q2 := F.sub_tuple_frozenset
    have q3 : (Value.type "tuple" == Value.type "dict") = false := by decide
    obtain ⟨ob, ho, hc, nl, hd⟩ := hl
    obtain ⟨cl, od, da, sl⟩ := ob
    dsimp only at hc hd
    subst hc
    subst hd
    have lo := Heap.lt_size ho
    have ho2 : (s.heap.push (newSet led)).get? l = some { cls := .type "tuple", dict := od, data := .seq items nl, slots := sl } := Heap.get?_push_of_some _ ho
    have at_ : (s.heap.push (newSet led)).IsTuple l items := ⟨_, ho2, rfl, nl, rfl⟩
    unfold Builtin.«set.__init__» noKeywords Builtin.Frozenset.updateFrom
    generalize hPI : pyIter = PI
    wp_walk
    subst hPI
    refine wpAny_pyIter_tuple at_ (wpAny_bind (wpAny_runValue ?_))
    have off : l ≠ (s.heap.push (newSet led)).objs.size := by rw [Heap.size_push]; exact Nat.ne_of_lt (Nat.lt_succ_of_lt lo)
    have off2 : s.heap.objs.size ∉ [(s.heap.push (newSet led)).objs.size, l] := by
      rw [Heap.size_push]
      exact fun m => (List.mem_cons.mp m).elim (Nat.ne_of_lt (Nat.lt_succ_self _)) fun m => Nat.ne_of_gt lo (List.mem_singleton.mp m)
    refine fill_texts ((Walks.tuple n3 _ l off items).toS) off2 sz nd (by omega) val (fun z' mv hz' => ?_) _ 0 _ (Nat.zero_add _) ⟨⟨_, Heap.get?_push_size _ rfl, rfl, rfl⟩, at_.push _⟩ ?_ fun _ mv => mv
    · obtain ⟨h', g', d', tk', os'⟩ := z'
      obtain rfl : g' = s.gens := mv.gens
      obtain rfl : d' = s.drawn := mv.drawn
      obtain rfl : os' = s.os := mv.os
      show wpAny _ _ _ _ _ _
      refine wpAny_pure ?_
      show wpAny _ _ (ret Value.none) _ _ _
      refine wpAny_pure ⟨rfl, h h' tk' (by rw [sz]; exact hz') fun b o e => ?_⟩
      have lb := Heap.lt_size e
      refine mv.heap b o (fun m => ?_) (Heap.get?_push_of_some _ (Heap.get?_push_of_some _ e))
      rcases List.mem_cons.mp m with m | m
      · exact Nat.ne_of_lt lb m
      · rw [Heap.size_push] at m
        exact Nat.ne_of_lt (Nat.lt_succ_of_lt lb) (List.mem_singleton.mp m)
    · have got : ((s.heap.push (newSet led)).push { cls := .type "tuple_iterator", data := .fields #[.ref l, .int 0 0] }).get? s.heap.objs.size = some (newSet led) := Heap.get?_push_of_some _ (Heap.get?_push_size _ rfl)
      exact SetOf_congr ((setObjOf_fresh (knd := strKind prog w) led).setOf got (by unfold scanBound; omega)) (fun k => by simp) rfl
end
/-- set(xs), only for its len: a list or a tuple of texts, no two alike -/
def tLenTexts (K : PySem.W.Frag) (ta : TE) : TE := fun σ H Q => ta σ H fun x H1 => ∃ l, ∃ xs : List Str, x = .ref l ∧ (SqL K H1 l (xs.map V.str) ∨ SqT K H1 l (xs.map V.str)) ∧ xs.Nodup ∧ xs.length ≤ 64 ∧ Q (.int xs.length) H1
theorem pe_lenTexts {X : Cx} {a : Expr} {ta : TE} {p p2 q pos : Pos} (hc : X.calm = true) (hg : Gl X "len") (hm : X.mg "len" = none) (hg2 : Gl X "set") (hm2 : X.mg "set" = none) (ha : PE X a ta)
    (na : starEach [a] X.env = (false, eval a X.env) :: starEach [] X.env := by rfl) : PE X (.Call (.Name "len" p) [.Call (.Name "set" p2) [a] [] q] [] pos) (tLenTexts X.K ta) := by
  refine ⟨fun pins s σ H Q I h => Call_ (ld_blt I hg hm boot_len ?_)⟩
  refine callWith_builtin1 (args_cons (Call_ (ld_blt I hg2 hm2 boot_set ?_)) rfl) rfl rfl
  refine callWith_type1 (args_cons (thn (ha.run pins s σ H _ I h) fun v z ⟨x, H1, J, r1, q1⟩ => args_nil ?_) na) na rfl
  obtain ⟨l, xs, ex, hq, nd, few, q1⟩ := q1
  subst ex
  cases (show v = Value.ref l from r1)
  have fin : ∀ (h' : Heap) (tk : Nat), h'.SetOf (strKind X.prog X.w) z.heap.objs.size (fun k => decide (k ∈ xs)) xs.length → (∀ b o, z.heap.get? b = some o → h'.get? b = some o) →
      wpAny (model X.prog X.w) X.A (spliced (backTo pos (starEach [] X.env))) (fun vs y => wpAny (model X.prog X.w) X.A (call (.builtin "len") (Value.ref z.heap.objs.size :: vs)) (EP X pins σ Q) X.xe y) X.xe { z with heap := h', toks := tk } := fun h' tk hS hk => by
    refine args_nil ?_
    obtain ⟨o, es, ep, t, ho, hex, hd, _, _, _, hf, hn⟩ := hS
    have J2 : L2.Inv X pins σ H1 { z with heap := h', toks := tk } := J.kept fun b o e => hk b o e
    exact call_len_set ho hex hd hf (by rw [hn] <;> omega) ⟨.int xs.length, H1, J2.tok _, ⟨_, by rw [hn]⟩, q1⟩
  rcases hq with hq | hq
  · obtain ⟨its, r, pl, _⟩ := J.list hq
    exact made_texts (J.ok.hd hc) (.inl pl.isList) (by simpa using L2.strsAre_of r) nd few fin
  · obtain ⟨its, r, pl, _⟩ := J.tuple hq
    exact made_texts (J.ok.hd hc) (.inr pl) (by simpa using L2.strsAre_of r) nd few fin
end Own
set_option Elab.async false
set_option linter.all false
set_option maxRecDepth 100000
set_option maxHeartbeats 2000000
/-! == of dicts whose values are data -/
namespace Own
open PySem PySem.Spec PyProof.Rows L2
def dfind (ls : List (Key × PyData)) (k : Key) : Option PyData := (ls.find? fun p => decide (p.1 = k)).map (·.2)
def eqKD (ks ls : List (Key × PyData)) : Bool := ks.all fun p => match dfind ls p.1 with | some u => PyData.eqv p.2 u | none => false
def DVal (K : PySem.W.Frag) (H : Hp) (kv : Key × V) (kd : Key × PyData) : Prop := kv.1 = kd.1 ∧ Dp K H kv.2 kd.2 ∧ SeqAt.shaped kd.2 = true ∧ kd.2.depth ≤ 8
theorem dval_find {K : PySem.W.Frag} {H : Hp} (k : Key) : ∀ {ls : List (Key × V)} {ds : List (Key × PyData)}, Paired (DVal K H) ls ds → (valV ls k = none ∧ dfind ds k = none) ∨ ∃ v d, valV ls k = some v ∧ dfind ds k = some d ∧ Dp K H v d ∧ SeqAt.shaped d = true
  | [], [], .nil => .inl ⟨rfl, rfl⟩
  | kv :: ls, kd :: ds, .cons h t => by
    by_cases e : kv.1 = k
    · exact .inr ⟨kv.2, kd.2, valV_pos e, by unfold dfind; rw [List.find?_cons_of_pos (by rw [← h.1]; exact decide_eq_true e)]; rfl, h.2.1, h.2.2.1⟩
    · have e2 : dfind (kd :: ds) k = dfind ds k := by unfold dfind; rw [List.find?_cons_of_neg (by rw [← h.1]; simpa using e)]
      rw [valV_neg e, e2]
      exact dval_find k t
theorem hits_data {X : Cx} {pins : List (Addr × Obj)} {σ : L2.St} {H : Hp} {s : Shared} (I : L2.Inv X pins σ H s) {A : Around} (hu : A.units + 8 < cLine) {ls : List (Key × V)} {lsd : List (Key × PyData)} {vb : List (Key × Value)} (rb : KV ls vb) (fl : Paired (DVal X.K H) ls lsd) {ks : List (Key × V)} {va : List (Key × Value)}
    (ra : KV ks va) : ∀ {ksd : List (Key × PyData)}, Paired (DVal X.K H) ks ksd → PySem.W.KeqHitsP X.prog X.w A s vb va (eqKD ksd lsd) := by
  unfold KV at ra
  induction ra with
  | nil => intro ksd h; cases h; exact .nil
  | @cons p q ps qs h t k =>
    intro ksd hk
    cases hk with
    | @cons _ kd _ ds hd ht =>
      obtain ⟨h1, h2⟩ := h
      obtain ⟨key, v⟩ := q
      have h1' : p.1 = key := h1
      have rest := k ht
      have rr : RelO (valV ls p.1) (valueAt vb p.1) := rb.val p.1
      have e0 : eqKD (kd :: ds) lsd = ((match dfind lsd kd.1 with | some u => PyData.eqv kd.2 u | none => false) && eqKD ds lsd) := rfl
      rw [e0, ← hd.1]
      rcases dval_find p.1 fl with ⟨e1, e2⟩ | ⟨u, d, e1, e2, hp, hs⟩
      · rw [e1] at rr
        rw [e2]
        refine .miss ?_
        rw [← h1']
        cases hv : valueAt vb p.1 with
        | none => rfl
        | some z => rw [hv] at rr; exact rr.elim
      · rw [e1] at rr
        rw [e2]
        obtain ⟨y, hy, ry⟩ := rr.some_of
        rw [h1'] at hy
        obtain ⟨as, r1⟩ := Dp.reads I kd.2 p.2 v hd.2.1 h2
        obtain ⟨bs, r2⟩ := Dp.reads I d u y hp ry
        refine .hit hy (SeqAt.EqAt.eqP (b := PyData.eqv kd.2 d) ?_) rest
        exact SeqAt.eqAt_reads kd.2 d A s v y as bs r1 r2 (SeqAt.canLay_of_shaped hd.2.2.1) (SeqAt.canLay_of_shaped hs) (by have := hd.2.2.2; have : min kd.2.depth d.depth ≤ kd.2.depth := Nat.min_le_left _ _; omega)
def rEqDD (K : PySem.W.Frag) : R2 := fun x y H Q => ∃ a b ks ls ksd lsd, x = .ref a ∧ y = .ref b ∧ H a = some (.dK ks) ∧ H b = some (.dK ls) ∧ Paired (DVal K H) ks ksd ∧ Paired (DVal K H) ls lsd ∧ Q (.bl (ks.length == ls.length && eqKD ksd lsd)) H
theorem op_eqDD {X : Cx} (hu : X.A.units + 64 < cLine) : OpR X (compareOp .Eq) (rEqDD X.K) := by
  intro pins s σ H x y v u Q I rx ry ⟨a, b, ks, ls, ksd, lsd, ex, ey, ha, hb, f1, f2, q⟩
  subst ex
  subst ey
  cases (show v = Value.ref a from rx)
  cases (show u = Value.ref b from ry)
  obtain ⟨_, ya, va, ra, da⟩ := (show ObjOk X.prog X.w H s.heap a (.dK ks) from I.hok a _ ha)
  obtain ⟨_, yb, vb, rb, db⟩ := (show ObjOk X.prog X.w H s.heap b (.dK ls) from I.hok b _ hb)
  have la : ks.length = va.length := by unfold KV at ra; exact ra.length
  have lb : ls.length = vb.length := by unfold KV at rb; exact rb.length
  refine PySem.W.rcP_dicts (knd := mixKind X.prog X.w) (r := eqKD ksd lsd) ya yb da db (by omega) (fun _ => hits_data I (A := X.A.in1) (by show X.A.units + 1 + 8 < cLine; omega) rb f2 ra f1) _ _ ?_
  rw [← la, ← lb]
  exact ⟨.bl _, H, I, rfl, q⟩
end Own
set_option Elab.async false
set_option linter.all false
set_option maxRecDepth 100000
set_option maxHeartbeats 2000000
/-! x in o with an own __contains__ -/
namespace Own
open PySem PySem.Spec PyProof.Rows L2
def rInOwn (C : Addr) (sp : Sp) (E : XK) : R2 := fun x y H Q => ∃ a dx fs, y = .ref a ∧ H a = some (.ins C dx fs) ∧ sp [y, x] H (fun v H' => ∃ b : Bool, v = .bl b ∧ Q (.bl b) H') E
theorem op_inOwn {X : Cx} {CX : CXT} {C f : Addr} {fd : FuncData} {ps : List Str} {n : Nat} {sp : Sp} {E : XK} (F : FnOk X.prog X.w X.K X.mg X.base CX n f fd ps sp) (hs : PySem.W.findIn X.K (.ref C) "__contains__" = some (some (.ref f))) (hf : PySem.W.isFn X.K (.ref f) = true) (hb : L2.Binds X.K fd ps []) (hx : Passes CX X E) (hr : Room (n + 1) X.A) :
    OpR X (compareOp .In) (rInOwn C sp E) := by
  intro pins s σ H x y u v Q I rx ry ⟨a, dx, fs, ey, ha, hsp⟩
  subst ey
  cases (show v = Value.ref a from ry)
  obtain ⟨mA, J, _⟩ := ins_get I.hok ha
  obtain ⟨od, J, _⟩ := J.look
  refine wpAny_bind (m := contains (.ref a) u) ?_
  unfold contains
  refine wpAny_holding ?_
  dsimp only [stdlibNamesSay?]
  unfold callSpecialUnlessNone? specialOf
  refine wpAny_bind (wpAny_bind (J.type.here ((PySem.W.looks_findIn I.kIn hs).here ?_)))
  show wpAny _ _ (if (some (Value.ref f) == some Value.none) = true then _ else _) _ _ _
  rw [if_neg (by simp)]
  refine wpAny_bind (wpAny_bind (wpAny_bind (J.type.here ((PySem.W.looks_findIn I.kIn hs).here ?_))))
  refine wpAny_holding (wpAny_bind ((PySem.W.bind_fn I.kIn _ (beq_iff_eq.mp hf)).here ?_))
  show wpAny _ _ (if (Value.ref f == Value.none) = true then _ else _) _ _ _
  rw [if_neg (by simp)]
  refine wpAny_bind (wpAny_mono (own_call (A := X.A) F hb hx (hr.mono (by omega)) rfl I (x := .ref a) rfl rx hsp) (fun w s' h => ?_) fun _ _ h => h)
  obtain ⟨z, H', rz, I', b, ez, q⟩ := h
  subst ez
  cases (show w = Value.bool b from rz)
  exact wpAny_pure (wpAny_truthy_bool (wpAny_pure ⟨.bl b, H', I', rfl, q⟩))
theorem inOwnOf {X : Cx} {CX : CXT} {K : PySem.W.Frag} {C f : Addr} {fd : FuncData} {ps : List Str} {n : Nat} {sp : Sp} {E : XK} (_ : X.K = K) (F : FnOk X.prog X.w X.K X.mg X.base CX n f fd ps sp) (hs : PySem.W.findIn X.K (.ref C) "__contains__" = some (some (.ref f))) (hf : PySem.W.isFn X.K (.ref f) = true) (hb : L2.Binds X.K fd ps []) (hx : Passes CX X E) (hr : Room (n + 1) X.A) :
    OpR X (compareOp .In) (rInOwn C sp E) := op_inOwn F hs hf hb hx hr
end Own
set_option Elab.async false
set_option linter.all false
set_option maxRecDepth 100000
set_option maxHeartbeats 2000000
/-! len(o) with an own __len__; t[::-1] of a tuple -/
namespace Own
open PySem PySem.Spec PyProof.Rows L2 PySem.W
section
variable {X : Cx} {C g : Addr} {gd : FuncData} {qs : List Str} {m : Nat} {sl : Sp} {E : XK}
/-- the number that an own __len__ tells -/
def LenIs (n : Nat) (H : Hp) : VK := fun v H' => v = .int n ∧ H' = H
theorem len_is (F : FnOk X.prog X.w X.K X.mg X.base CX0 m g gd qs sl) (hb : L2.Binds X.K gd qs []) {A : Around} (hr : Room (m + 1) A) (hfr : A.frames = X.A.frames)
    (hs : PySem.W.findIn X.K (.ref C) "__len__" = some (some (.ref g))) (hf : PySem.W.isFn X.K (.ref g) = true) {pins : List (Addr × Obj)} {s : Shared} {σ : L2.St} {H : Hp} {a dx : Addr} {fs : List (Str × V)} {k : Nat} (I : L2.Inv X pins σ H s) (ha : H a = some (.ins C dx fs)) (hk : k ≤ sizeLine) (hsp : sl [.ref a] H (LenIs k H) E) :
    wpAny (model X.prog X.w) A (call (.builtin "len") [.ref a]) (fun r s' => ∃ t : Tok, r = .int k t ∧ L2.Inv X pins σ H s') (fun _ _ => False) s := by
  obtain ⟨mA, J, _⟩ := ins_get I.hok ha
  obtain ⟨od0, J, _⟩ := J.look
  refine Calls.call_function_entry kind_len plain_len entry_len (args_len1 _) ?_
  unfold Builtin.«len»
  refine wpAny_bind (m := oneArg "len" _) (wpAny_pure ?_)
  refine wpAny_bind (m := callSpecial? (.ref a) (PySem.Str.ofString "__len__")) ?_
  unfold callSpecial? specialOf
  refine wpAny_bind (wpAny_bind (J.type.here ((PySem.W.looks_findIn I.kIn hs).here ?_)))
  refine wpAny_holding (wpAny_bind ((PySem.W.bind_fn I.kIn _ (beq_iff_eq.mp hf)).here ?_))
  refine wpAny_bind (wpAny_mono (own_call1 (A := A.in1) F hb (Room.in1 hr) hfr I (x := .ref a) rfl hsp) (fun w s' h => ?_) fun _ _ h => h)
  obtain ⟨z, H', rz, I', ez, eH⟩ := h
  subst ez
  subst eH
  obtain ⟨t, rfl⟩ := (show ∃ t, w = Value.int k t from rz)
  have hz : sizeLine = 16777216 := sizeLine_eq
  refine wpAny_pure (wpAny_bind (wpAny_holding (wpAny_pure ?_)))
  refine wpAny_bind (wpAny_letGo ?_)
  show wpAny _ _ (if ((k : Nat) : Int) < 0 then _ else _) _ _ _
  rw [if_neg (by omega)]
  show wpAny _ _ (if ((k : Nat) : Int) ≥ 2 ^ 63 then _ else _) _ _ _
  rw [if_neg (by omega)]
  exact wpAny_bind (wpAny_mkInt (wpAny_pure ⟨_, rfl, _, rfl, I'.tok _⟩))
def rLenOwn (C : Addr) (sl : Sp) (E : XK) : List V → Hp → VK → Prop := fun xs H Q => ∃ a dx fs n, xs = [.ref a] ∧ H a = some (.ins C dx fs) ∧ n ≤ sizeLine ∧ sl [.ref a] H (LenIs n H) E ∧ Q (.int (n : Nat)) H
theorem call_lenOwn (F : FnOk X.prog X.w X.K X.mg X.base CX0 m g gd qs sl) (hb : L2.Binds X.K gd qs []) (hr : Room (m + 1) X.A)
    (hs : PySem.W.findIn X.K (.ref C) "__len__" = some (some (.ref g))) (hf : PySem.W.isFn X.K (.ref g) = true) : CallR X (.builtin "len") (rLenOwn C sl E) := by
  rintro pins s σ H xs us Q I r ⟨a, dx, fs, n, rfl, ha, hn, hsp, q⟩
  obtain rfl := Vals.ref1 r
  exact wpAny_mono (len_is F hb hr rfl hs hf I ha hn hsp) (fun r s' ⟨t, e, I'⟩ => ⟨.int n, H, I', by rw [e]; exact ⟨t, rfl⟩, q⟩) fun _ _ h => h.elim
end
section
variable {prog : Program} {w : World} {A : Around} {E : Value → Shared → Prop} {s : Shared}
theorem places_rev (n : Nat) : Builtin.Slice.slicePlaces ((n : Int) - 1) (-1) (-1) = n := by
  unfold Builtin.Slice.slicePlaces
  have h1 : ¬ ((-1 : Int) > 0) := by omega
  simp only [h1, if_false]
  rw [show (- -1 : Int) = 1 by decide, Int.ediv_one]
  split <;> omega
theorem applied_rev {sl : Addr} {vl vu vs : Value} {n : Nat} {Q : Int × Int × Nat → Shared → Prop} (hs : s.heap.IsSliceOf sl vl vu vs) (pl : IsPart vl none) (pu : IsPart vu none) (ps : IsPart vs (some (-1)))
    (h : Q (((n : Nat) : Int) - 1, -1, n) s) : wpAny (model prog w) A (Builtin.Slice.sliceApplied (.ref sl) (pure (n : Int))) Q E s := by
  obtain ⟨os, hos, hcs, hds⟩ := id hs
  unfold Builtin.Slice.sliceApplied Builtin.Slice.sliceFields
  refine wpAny_bind (wpAny_bind (wpAny_field hos hds (x := vl) rfl (wpAny_bind (wpAny_field hos hds (x := vu) rfl (wpAny_bind (wpAny_field hos hds (x := vs) rfl (wpAny_pure ?_)))))))
  refine wpAny_bind (HT.slicePart_ ps ?_)
  show wpAny _ _ (if ((-1 : Int) == 0) = true then _ else _) _ _ s
  rw [if_neg (by decide)]
  refine wpAny_bind (HT.slicePart_ pl (wpAny_bind (HT.slicePart_ pu (wpAny_bind (wpAny_pure ?_)))))
  show wpAny _ _ (pure (((n : Int) - 1), (-1 : Int), Builtin.Slice.slicePlaces ((n : Int) - 1) (-1) (-1))) _ _ s
  rw [places_rev]
  exact wpAny_pure h
theorem pick_rev (xs : Array Value) : ((List.range xs.size).filterMap fun (m : Nat) => xs[(((xs.size : Nat) : Int) - 1 + (m : Int) * -1).toNat]?).toArray = xs.toList.reverse.toArray := by
  have e : ((List.range xs.size).filterMap fun (m : Nat) => xs[(((xs.size : Nat) : Int) - 1 + (m : Int) * -1).toNat]?) = ((List.range xs.size).map fun k => xs.size - 1 - k).filterMap (xs[·]?) := by
    rw [List.filterMap_map]
    refine congrArg (fun f => List.filterMap f _) (funext fun m => ?_)
    show xs[(((xs.size : Nat) : Int) - 1 + (m : Int) * -1).toNat]? = xs[xs.size - 1 - m]?
    by_cases h : m < xs.size
    · rw [show (((xs.size : Nat) : Int) - 1 + (m : Int) * -1).toNat = xs.size - 1 - m by omega]
    · rw [show (((xs.size : Nat) : Int) - 1 + (m : Int) * -1).toNat = xs.size - 1 - m by omega]
  rw [e, krv_range, List.filterMap_reverse, krv_all]
theorem getItem_tuple_rev {t sl : Addr} {items : Array Value} {vl vu vs : Value} {Q : Value → Shared → Prop} (ht : IsTup s.heap t items) (hs : s.heap.IsSliceOf sl vl vu vs) (pl : IsPart vl none) (pu : IsPart vu none) (ps : IsPart vs (some (-1)))
    (h : Q (.ref s.heap.objs.size) { s with heap := s.heap.push { cls := .type "tuple", data := .seq items.toList.reverse.toArray } })
    (hsz : items.size ≤ sizeLine) : wpAny (model prog w) A (getItem (.ref t) (.ref sl)) Q E s := by
  have htake : sizeOk (.seq items.toList.reverse.toArray) := by
    show items.toList.reverse.toArray.size ≤ sizeLine
    rw [List.size_toArray, List.length_reverse, Array.length_toList]
    exact hsz
  obtain ⟨os, hos, hcs, hds⟩ := id hs
  have hTs : s.TypeIs (.ref sl) "slice" := ⟨os, hos, hcs⟩
  unfold getItem
  try with_reducible refine wpAny_holding ?_
  first | refine wpAny_bind (wpAny_pure ?_) | skip
  refine wpAny_bind (wpAny_sequenceKey ht.typeIs (by decide) ?_)
  refine wpAny_bind (wpAny_callSpecial?_slot (name := Str.ofString "__getitem__") ht.typeIs PyProof.Rows.slot_tuple_getitem
    (wpAny_call_entry PyProof.Rows.slot_tuple_getitem ht.typeIs PyProof.Rows.entry_tuple_getitem ?_ (PyProof.Rows.args_tuple_getitem _ _)))
  show wpAny _ _ (Builtin.Tuple.tupleItemsOf (.ref t) >>= _) _ _ s
  refine wpAny_bind (tupleItemsOf_ ht ?_)
  refine wpAny_bind (wpAny_typeOf hTs ?_)
  rw [if_pos (by decide)]
  refine wpAny_bind (applied_rev hs pl pu ps ?_)
  have hno : ¬ ((((items.size : Int) - 1) == 0 && (-1 : Int) == 1 && items.size == items.size) = true) := by
    intro q
    rw [Bool.and_eq_true, Bool.and_eq_true] at q
    exact absurd (eq_of_beq q.1.2) (by decide)
  show wpAny _ _ (if (((items.size : Int) - 1) == 0 && (-1 : Int) == 1 && items.size == items.size) = true then _ else _) _ _ s
  rw [if_neg hno, pick_rev]
  first
    | exact wpAny_bind (m := Builtin.Tuple.tupleExact _) (wpAny_newObj_type (wpAny_pure ⟨_, rfl, wpAny_pure h⟩) htake)
    | exact wpAny_bind (m := Builtin.Tuple.tupleExact _) (wpAny_newObj_type (wpAny_bind (wpAny_pure (wpAny_pure ⟨_, rfl, wpAny_pure h⟩))) htake)
    | exact wpAny_bind (wpAny_bind (m := Builtin.Tuple.tupleExact _) (wpAny_newObj_type (wpAny_pure (wpAny_pure ⟨_, rfl, wpAny_pure h⟩)) htake))
    | exact wpAny_bind (wpAny_bind (m := Builtin.Tuple.tupleExact _) (wpAny_newObj_type (wpAny_pure ⟨_, rfl, wpAny_pure h⟩) htake))
end
def tRevT (K : PySem.W.Frag) (te : TE) : TE := fun σ H Q => te σ H fun x H1 => ∃ a xs, x = .ref a ∧ SqT K H1 a xs ∧ ∀ p, H1 p = none → Q (.ref p) (upd H1 p (.tup xs.reverse))
theorem pe_revT {X : Cx} {e : Expr} {te : TE} {k : Nat} {p1 p2 p3 pos : Pos} (he : PE X e te) : PE X (.Subscript e (.Slice none none (some (.UnaryOp .USub (.Constant (.int 1) k p1) p2)) p3) pos) (tRevT X.K te) := by
  refine ⟨fun pins s σ H Q I h => ?_⟩
  refine Subscript_ (thn (he.run pins s σ H _ I h) fun v s1 ⟨x, H1, I1, r1, q1⟩ => ?_)
  obtain ⟨a, xs, ex, hx, q⟩ := q1
  subst ex
  cases r1
  have hst : PO X (some (.UnaryOp .USub (.Constant (.int 1) k p1) p2)) (tPart (tUn (rU fun i => .int (-i)) (tC (.int 1)))) := po_some (pe_un un_neg pe_int)
  refine wpAny_Slice (thn (po_none.run pins s1 σ H1 (fun o H2 => o = none ∧ H2 = H1) I1 ⟨rfl, rfl⟩) fun vl s2 ⟨l, H2, I2, pl, el, e2⟩ => ?_)
  subst el e2
  refine thn (po_none.run pins s2 σ H2 (fun o H3 => o = none ∧ H3 = H2) I2 ⟨rfl, rfl⟩) fun vu s3 ⟨u, H3, I3, pu, eu, e3⟩ => ?_
  subst eu e3
  refine thn (hst.run pins s3 σ H3 (fun o H4 => o = some (-1) ∧ H4 = H3) I3 ⟨1, rfl, -1, rfl, rfl, rfl⟩) fun vs s4 ⟨o, H4, I4, ps, eo, e4⟩ => ?_
  subst eo e4
  have I5 : L2.Inv X pins σ H4 { s4 with heap := s4.heap.push { cls := .type "slice", data := .fields #[vl, vu, vs] } } := I4.kept (t' := s4.toks) fun b ob q => Heap.get?_push_of_some _ q
  obtain ⟨its, r, ht, hz⟩ := I5.tuple hx
  have hlen : its.toArray.size = xs.length := by rw [List.size_toArray]; exact r.length.symm
  show wpAny (model X.prog X.w) X.A (subscriptTail e (.Slice none none (some (.UnaryOp .USub (.Constant (.int 1) k p1) p2)) p3) (.ref a) (.ref s4.heap.objs.size)) (EP X pins σ Q) X.xe { s4 with heap := s4.heap.push { cls := .type "slice", data := .fields #[vl, vu, vs] } }
  refine tail_any (ops := [.ref a, .ref s4.heap.objs.size]) ht.typeIs (PyProof.Rows.slot_tuple_getitem.lookup) ?_ (by with_unfolding_all rfl)
  refine getItem_tuple_rev ht (Heap.IsSliceOf.new _ vl vu vs) pl pu ps ?_ (by rw [hlen]; exact hz)
  refine ⟨.ref _, _, I5.laid (t' := s4.toks) (o := .tup xs.reverse) (fun b ob q => Heap.get?_push_of_some _ q) (Nat.le_refl _) ?_, rfl, q _ (I5.hok.fresh (Nat.le_refl _))⟩
  exact ⟨by rw [List.length_reverse]; exact hz, _, r.reverse, IsTup.new _ _⟩
/-! ### an int on the left -/
theorem int_declines {prog : Program} {w : World} {A : Around} {E : Value → Shared → Prop} {s : Shared} {i : Int} {t : Tok} {x C dx : Addr} (hx : s.heap.get? x = some (PySem.W.instObj C dx)) :
    wpAny (model prog w) A (tryCompare (.int i t) "__eq__" (.ref x)) (fun r s' => r = none ∧ s' = s) E s := by
  have hT : s.TypeIs (.int i t) "int" := rfl
  refine wpAny_tryCompare_declines hT PySem.F.slot_int_eq_refl (wpAny_call (codeAny_call_builtin PySem.F.slot_int_eq_refl.plain PySem.F.entry_int_eq (PySem.F.slot_int_eq_refl.check _ _ _ _ _ _ _ _ hT (PySem.F.args_int_eq_2 _ _) ?_)))
  show wpAny _ _ (Builtin.Int.intBinary "__eq__" (fun x y => ret (.bool (x == y))) false ⟨[.int i t, .ref x], []⟩) _ _ _
  unfold Builtin.Int.intBinary
  refine wpAny_bind (m := slotArgs "__eq__" 1 _) (wpAny_pure ?_)
  refine wpAny_bind (m := Builtin.Int.intOfSelf (.int i t)) ?_
  unfold Builtin.Int.intOfSelf
  refine wpAny_bind (m := asInt? (.int i t)) (wpAny_pure (wpAny_pure ?_))
  refine wpAny_bind (m := asInt? (.ref x)) ?_
  unfold asInt?
  refine wpAny_bind (m := load x) (wpAny_load hx (wpAny_pure ?_))
  refine wpAny_bind (wpAny_rule (wpAny_pure ?_))
  first
    | exact ⟨trivial, rfl, rfl⟩
    | exact ⟨trivial, trivial, rfl⟩
    | exact ⟨trivial, rfl⟩
    | simp
section
variable {X : Cx} {CX : CXT} {C f : Addr} {fd : FuncData} {ps : List Str} {n : Nat} {sp : Sp} {E : XK}
def rIntL (C : Addr) (sp : Sp) (E : XK) : R2 := fun x y H Q => ∃ i a dx fs, x = .int i ∧ y = .ref a ∧ H a = some (.ins C dx fs) ∧ sp [y, x] H (fun v H' => ∃ b : Bool, v = .bl b ∧ Q (.bl b) H') E
theorem op_eqIntL (F : FnOk X.prog X.w X.K X.mg X.base CX n f fd ps sp) (hsub : PySem.W.subIn X.K (.ref C) (.type "int") = some false)
    (hs : PySem.W.findIn X.K (.ref C) "__eq__" = some (some (.ref f))) (hf : PySem.W.isFn X.K (.ref f) = true) (hb : L2.Binds X.K fd ps []) (hx : Passes CX X E) (hr : Room n X.A) :
    OpR X (compareOp .Eq) (rIntL C sp E) := by
  intro pins s σ H x y u v Q I rx ry ⟨i, a, dx, fs, ex, ey, ha, hsp⟩
  subst ex
  subst ey
  obtain ⟨t, rfl⟩ := (show ∃ t, u = Value.int i t from rx)
  cases (show v = Value.ref a from ry)
  obtain ⟨mA, J0, _⟩ := ins_get I.hok ha
  obtain ⟨od, J, _⟩ := J0.look
  show wpAny (model X.prog X.w) X.A (richCompare .Eq (.int i t) (.ref a)) (EP X pins σ Q) X.xe s
  refine rc_left hr.units0 I.kIn J (show s.TypeIs (.int i t) "int" from rfl) hsub rfl (int_declines J0.obj) hs hf ?_
  refine wpAny_mono (own_call F hb hx hr rfl I (x := .ref a) (y := .int i) rfl ⟨t, rfl⟩ hsp) (fun w s' h => ?_) fun _ _ h => h
  obtain ⟨z, H', rz, I', b, ez, q⟩ := h
  subst ez
  cases (show w = Value.bool b from rz)
  exact ⟨b, rfl, .bl b, H', I', rfl, q⟩
end
end Own
set_option Elab.async false
set_option linter.all false
set_option maxRecDepth 100000
set_option maxHeartbeats 2000000
/-! a dict written with other dicts in it -/
namespace Own
open PySem PySem.Spec PyProof.Rows L2
section
variable {prog : Program} {w : World} {K : Type} [DecidableEq K] {knd : KeyKind prog w K} {A : Around} {E : Value → Shared → Prop} {s : Shared}
theorem put_pairs {d : Addr} {kvs : List (K × Value)} {k : K} {key v : Value} {Q : Unit → Shared → Prop} (hkey : knd.is k key = true) (hm : s.heap.DictOf knd d kvs)
    (hQ : ∀ h', h'.DictOf knd d (stored kvs k v) → Heap.SameBut d s.heap h' → Q () { s with heap := h' }) (hsz : kvs.length ≤ sizeLine) :
    wpAny (model prog w) A (dictPut d (knd.hash k) key v) Q E s := by
  obtain ⟨o, es, ep, ho, hc, hd, hk, hp, hn⟩ := hm
  have hes : es.size ≤ sizeLine := by
    have e1 := hp.length
    rw [Array.length_toList] at e1
    omega
  unfold dictPut
  refine wpAny_bind (wpAny_dictFind_of hkey ho hd hk ?_)
  have hidx : (es.findIdx? fun e => knd.is k e.key) = kvs.findIdx? fun kv => decide (kv.1 = k) := by
    rw [← hp.findIdx k]; obtain ⟨l⟩ := es; simp
  cases hi : es.findIdx? fun e => knd.is k e.key with
  | some i =>
    refine wpAny_updateDict ho hd (hQ _ ⟨_, _, ep, Heap.get?_update_self _ ho (Obj.isFreed_of_dict (Obj.data_mapDict hd _)), hc.mapDict _, Obj.data_mapDict hd _, hk.modify _ _, ?_, ?_⟩ (Heap.SameBut.update ..))
    · rw [stored, if_pos (any_of_findIdx_some (hidx ▸ hi))]
      have hl : (es.toList.findIdx? fun e => knd.is k e.key) = some i := by rw [← hi]; obtain ⟨l⟩ := es; simp
      have := hp.modify hn hl v
      obtain ⟨l⟩ := es
      simpa using this
    · rw [stored, if_pos (any_of_findIdx_some (hidx ▸ hi)), keys_map_store]; exact hn
  | none =>
    have hnot : k ∉ kvs.map (·.1) := not_mem_of_findIdx_none (hidx ▸ hi)
    have hany : ¬ (kvs.any fun kv => decide (kv.1 = k)) = true := by
      rw [List.any_eq_true]; rintro ⟨kv, hkv, he⟩
      exact hnot (List.mem_map.mpr ⟨kv, hkv, of_decide_eq_true he⟩)
    refine wpAny_updateDictKeys (hz := hes) ho hd (hQ _ ⟨_, _, ep + 1, Heap.get?_update_self _ ho (Obj.isFreed_of_dict (Obj.data_mapDictKeys hd _)), hc.mapDictKeys _, Obj.data_mapDictKeys hd _, hk.push hkey _, ?_, ?_⟩ (Heap.SameBut.update ..))
    · rw [stored, if_neg hany]
      have := hp.append hkey (knd.hash k) v
      obtain ⟨l⟩ := es
      simpa using this
    · rw [stored, if_neg hany, List.map_append, List.nodup_append]
      refine ⟨hn, by simp, ?_⟩
      intro a ha b hb
      simp only [List.map_cons, List.map_nil, List.mem_singleton] at hb
      subst hb
      exact fun e => hnot (e ▸ ha)
theorem merge_pairs {d o : Addr} {kvs more : List (K × Value)} {Q : Unit → Shared → Prop} (nr : ∀ k v, knd.is k v = true → ∀ a, v ≠ .ref a) (hdo : d ≠ o) (hoS : (o == sysModules) = false) (hd : s.heap.DictOf knd d kvs) (ho : s.heap.DictOf knd o more)
    (hQ : ∀ h', h'.DictOf knd d (merged kvs more) → h'.DictOf knd o more → Heap.SameBut d s.heap h' → Q () { s with heap := h' }) (hsz : kvs.length + more.length ≤ sizeLine) :
    wpAny (model prog w) A (mergeMapping d (.ref o) false) Q E s := by
  obtain ⟨od, esd, epd, hod, hcd, hdd, hkd, hpd, hnd⟩ := id hd
  obtain ⟨oo, eso, epo, hoo, hco, hdo', hko, hpo, hno⟩ := id ho
  have hlen : more.length = eso.size := by rw [← hpo.length]; simp
  have loop : wpAny (model prog w) A (do
      let l ← dictEntries o
      have size : Nat := l.size
      let epoch ← dictEpoch o
      forIn (List.range size) PUnit.unit fun i (_ : PUnit) => (do
        let l' ← dictEntries o
        match l'[i]? with
          | some e => do
            holding [e.key, e.val] (dictPut d e.hash e.key e.val)
            let ep' ← dictEpoch o
            if (ep' != epoch) = true then do
                (unsupported "dict.changed-during-merge" : Sem PUnit)
                pure (ForInStep.yield PUnit.unit)
              else pure (ForInStep.yield PUnit.unit)
          | _ => do
            (unsupported "dict.changed-during-merge" : Sem PUnit)
            pure (ForInStep.yield PUnit.unit) : Sem (ForInStep PUnit))
      pure ()) Q E s := by
    refine wpAny_bind (wpAny_dictEntries hoo hdo' ?_)
    refine wpAny_bind (wpAny_dictEpoch hoo hdo' ?_)
    refine wpAny_bind ?_
    rw [show List.range eso.size = List.range' 0 eso.size from List.range_eq_range']
    refine wpAny_forIn_list _
      (fun rest _ s' => ∃ h' i, s' = { s with heap := h' } ∧ rest = List.range' i (eso.size - i) ∧ i ≤ eso.size ∧ h'.DictOf knd d (merged kvs (more.take i)) ∧ h'.get? o = some oo ∧ Heap.SameBut d s.heap h')
      _ ?_ ?_ _ _ ⟨s.heap, 0, rfl, by simp, Nat.zero_le _, by simpa [merged] using hd, hoo, Heap.SameBut.refl _ _⟩
    · rintro x rest b s' ⟨h', i, rfl, hr, hi, hd', hoo', hs'⟩
      have hlt : i < eso.size := by
        rcases Nat.lt_or_ge i eso.size with h | h
        · exact h
        · rw [Nat.sub_eq_zero_of_le h] at hr; simp at hr
      obtain ⟨rfl, hrest⟩ : x = i ∧ rest = List.range' (i + 1) (eso.size - (i + 1)) := by
        have e : eso.size - i = (eso.size - (i + 1)) + 1 := by omega
        rw [e, List.range'_succ] at hr
        injection hr with h1 h2
        exact ⟨h1, h2⟩
      refine wpAny_bind (wpAny_dictEntries hoo' hdo' ?_)
      rw [Array.getElem?_eq_getElem hlt]
      obtain ⟨kv, hkv⟩ : ∃ kv, more[x]? = some kv := ⟨more[x]'(by rw [hlen]; exact hlt), List.getElem?_eq_getElem _⟩
      obtain ⟨k, v⟩ := kv
      obtain ⟨hkey, hval⟩ := hpo.get? (e := eso[x]) (by simp [hlt]) hkv
      obtain ⟨k', hkey', hhash⟩ := hko eso[x] (Array.getElem_mem hlt)
      obtain rfl : k' = k := knd.inj _ _ _ hkey' hkey
      show wpAny _ _ (holding [eso[x].key, eso[x].val] (dictPut d eso[x].hash eso[x].key eso[x].val) >>= _) _ _ _
      rw [hhash, hval]
      have hmx : (merged kvs (more.take x)).length ≤ sizeLine := by
        have e1 := merged_length_le kvs (more.take x)
        have e2 : (more.take x).length ≤ more.length := by rw [List.length_take]; omega
        omega
      refine wpAny_bind (wpAny_holding (put_pairs hkey hd' (fun h'' hd'' hs'' => ?_) hmx))
      have hoo'' : h''.get? o = some oo := (hs''.2 o (Ne.symm hdo)).trans hoo'
      refine wpAny_bind (wpAny_dictEpoch hoo'' hdo' ?_)
      rw [if_neg (by simp)]
      exact wpAny_pure ⟨h'', x + 1, rfl, hrest, hlt, by rw [merged_take_succ kvs more x (k', v) hkv]; exact hd'', hoo'', hs'.trans hs''⟩
    · rintro b s' ⟨h', i, rfl, hr, hi, hd', hoo', hs'⟩
      have hin : i = eso.size := by
        rcases Nat.lt_or_ge i eso.size with h | h
        · have e : eso.size - i = (eso.size - (i + 1)) + 1 := by omega
          rw [e, List.range'_succ] at hr; exact nomatch hr
        · exact Nat.le_antisymm hi h
      refine wpAny_pure (hQ h' ?_ ⟨oo, eso, epo, hoo', hco, hdo', hko, hpo, hno⟩ hs')
      rw [hin, ← hlen, List.take_length] at hd'; exact hd'
  unfold mergeMapping
  refine wpAny_bind (m := isInstance (.ref o) (.type "dict")) (wpAny_isInstance ho.typeIs isSubtype_dict_dict ?_)
  simp only [if_true]
  refine wpAny_bind (wpAny_specialOf ho.typeIs F.slot_dict_iter.lookup ?_)
  simp only [beq_self_eq_true]
  show wpAny _ _ (if (o == sysModules) = true then _ else _) _ _ _
  rw [if_neg (by rw [hoS]; exact Bool.false_ne_true)]
  refine wpAny_bind (wpAny_dictEntries hod hdd ?_)
  split
  · refine wpAny_bind (wpAny_dictEntries hoo hdo' ?_)
    refine wpAny_bind (m := forIn eso PUnit.unit _) (wpAny_of_eq (a := PUnit.unit) ?_ loop)
    rw [← Array.forIn_toList]
    refine forIn_yield_id _ fun e he c => ?_
    obtain ⟨k, hkey, _⟩ := hko e (Array.mem_toList_iff.mp he)
    cases hv : e.key with
    | ref a => exact absurd hv (nr k _ hkey a)
    | _ => rfl
  · exact loop
end
theorem key_nref {P : Program} {w : World} (k : Key) (v : Value) (h : (mixKind P w).is k v = true) (a : Addr) : v ≠ .ref a := fun e => by
  rcases keyIs_shape h with ⟨i, t, _, q⟩ | ⟨x, t, _, q⟩ <;> (rw [q] at e; cases e)
section
variable {X : Cx} {pins : List (Addr × Obj)} {σ : L2.St} {H : Hp} {s : Shared} {A : Around} {E : Value → Shared → Prop}
theorem d_merge {p a : Addr} {kp ka : List (Key × V)} {Q : Unit → Shared → Prop} (I : L2.Inv X pins σ H s) (hp : H p = some (.dK kp)) (ha : Rd H a (.dK ka)) (ne : p ≠ a) (hsz : kp.length + ka.length ≤ sizeLine)
    (q : ∀ s', L2.Inv X pins σ (upd H p (.dK (mergeK kp ka))) s' → Q () s') : wpAny (model X.prog X.w) A (mergeMapping p (.ref a) false) Q E s := by
  obtain ⟨z, hd, vs0, r0, dp⟩ := dk_of I.hok hp
  obtain ⟨_, lo, vs, rel, da⟩ := dk_rd I.hok ha
  refine merge_pairs (knd := mixKind X.prog X.w) key_nref ne lo dp da (fun h' d1 _ hs => ?_) (by rw [← r0.length, ← rel.length]; exact hsz)
  have he : ∃ q, h'.get? p = some q := let ⟨q, _, _, hq, _⟩ := d1; ⟨q, hq⟩
  exact q _ (d_write (t' := s.toks) I (by rw [hp]; exact True.intro) hs he (dk_new (Nat.le_trans (length_mergeK ka kp) hsz) hd (rel.merge r0) d1))
end
/-- {**a, **b} -/
def tMerge2 (ta tb : TE) : TE := fun σ H Q => ∀ p, H p = none → ta σ (upd H p (.dK [])) fun x H1 => ∃ a ka, x = .ref a ∧ H1 p = some (.dK []) ∧ Rd H1 a (.dK ka) ∧ p ≠ a ∧ ka.length ≤ 1000 ∧
  tb σ (upd H1 p (.dK (mergeK [] ka))) fun y H2 => ∃ b kb, y = .ref b ∧ H2 p = some (.dK (mergeK [] ka)) ∧ Rd H2 b (.dK kb) ∧ p ≠ b ∧ kb.length ≤ 1000 ∧ Q (.ref p) (upd H2 p (.dK (mergeK (mergeK [] ka) kb)))
theorem pe_merge2 {X : Cx} {ea eb : Expr} {ta tb : TE} {pos : Pos} (ha : PE X ea ta) (hb : PE X eb tb) : PE X (.Dict [none, none] [ea, eb] pos) (tMerge2 ta tb) := by
  refine ⟨fun pins s σ H Q I q => ?_⟩
  have hn := I.hok.fresh (Nat.le_refl s.heap.objs.size)
  have I1 := I.laid (a := s.heap.objs.size) (o := .dK []) (h' := s.heap.push { cls := .type "dict", data := .dict #[] }) (t' := s.toks) (fun _ _ q => Heap.get?_push_of_some _ q) (Nat.le_refl _) (dk_empty s.heap I.big)
  rw [arm_eval_Dict]
  refine wpAny_bind (wpAny_standAt ?_)
  show wpAny (model X.prog X.w) X.A (dictDisplay [(none, do let x ← eval ea X.env; standAt pos; pure x), (none, do let x ← eval eb X.env; standAt pos; pure x)]) _ _ _
  unfold dictDisplay
  simp only [List.forIn_cons, List.forIn_nil, List.isEmpty_nil, if_true, pure_bind, bind_assoc, List.isEmpty]
  refine wpAny_bind (wpAny_alloc ?_)
  refine wpAny_bind (wpAny_holding (wpAny_bind (thn (ha.run pins _ σ _ _ I1 (q _ hn)) fun u s1 ⟨x, H1, I2, r1, a, ka, ex, h1, h2, h3, h4, q1⟩ => wpAny_bind (wpAny_standAt (wpAny_pure ?_)))))
  subst ex
  cases (show u = Value.ref a from r1)
  have z1 : (1000 : Nat) ≤ sizeLine := by rw [sizeLine_eq]; decide
  refine wpAny_bind (wpAny_onRaise (wpAny_tryCatch (wpAny_onRaise (wpAny_holding (d_merge I2 h1 h2 h3 (by rw [List.length_nil, Nat.zero_add]; exact Nat.le_trans h4 z1) fun s2 I3 => ?_)))))
  refine wpAny_bind (wpAny_holding (wpAny_bind (thn (hb.run pins _ σ _ _ I3 q1) fun u s3 ⟨y, H2, I4, r2, b, kb, ey, g1, g2, g3, g4, q2⟩ => wpAny_bind (wpAny_standAt (wpAny_pure ?_)))))
  subst ey
  cases (show u = Value.ref b from r2)
  have l1 := length_mergeK ka []
  rw [List.length_nil] at l1
  refine wpAny_bind (wpAny_onRaise (wpAny_tryCatch (wpAny_onRaise (wpAny_holding (d_merge I4 g1 g2 g3 (by rw [sizeLine_eq]; omega) fun s4 I5 => ?_)))))
  exact wpAny_pure ⟨.ref _, _, I5, rfl, q2⟩
/-- {**a, k: v} -/
def tMerge1 (ta tk tv : TE) : TE := fun σ H Q => ∀ p, H p = none → ta σ (upd H p (.dK [])) fun x H1 => ∃ a ka, x = .ref a ∧ H1 p = some (.dK []) ∧ Rd H1 a (.dK ka) ∧ p ≠ a ∧ ka.length ≤ 1000 ∧
  ∀ q, upd H1 p (.dK (mergeK [] ka)) q = none → tk σ (upd (upd H1 p (.dK (mergeK [] ka))) q (.dK [])) fun k H3 => tv σ H3 fun v H4 => H4 q = some (.dK []) ∧ H4 p = some (.dK (mergeK [] ka)) ∧ p ≠ q ∧ ∃ key, k = kV key ∧ Q (.ref p) (upd (upd H4 q (.dK [(key, v)])) p (.dK (putK (mergeK [] ka) key v)))
theorem pe_merge1 {X : Cx} {ea ek ev : Expr} {ta tk tv : TE} {pos : Pos} (ha : PE X ea ta) (hk : PE X ek tk) (hv : PE X ev tv) : PE X (.Dict [none, some ek] [ea, ev] pos) (tMerge1 ta tk tv) := by
  refine ⟨fun pins s σ H Q I q => ?_⟩
  have hn := I.hok.fresh (Nat.le_refl s.heap.objs.size)
  have I1 := I.laid (a := s.heap.objs.size) (o := .dK []) (h' := s.heap.push { cls := .type "dict", data := .dict #[] }) (t' := s.toks) (fun _ _ q => Heap.get?_push_of_some _ q) (Nat.le_refl _) (dk_empty s.heap I.big)
  rw [arm_eval_Dict]
  refine wpAny_bind (wpAny_standAt ?_)
  show wpAny (model X.prog X.w) X.A (dictDisplay [(none, do let x ← eval ea X.env; standAt pos; pure x), (some (eval ek X.env), do let x ← eval ev X.env; standAt pos; pure x)]) _ _ _
  unfold dictDisplay
  simp only [List.forIn_cons, List.forIn_nil, List.isEmpty_nil, if_true, pure_bind, bind_assoc, List.isEmpty, List.nil_append, List.length_cons, List.length_nil]
  refine wpAny_bind (wpAny_alloc ?_)
  refine wpAny_bind (wpAny_holding (wpAny_bind (thn (ha.run pins _ σ _ _ I1 (q _ hn)) fun u s1 ⟨x, H1, I2, r1, a, ka, ex, h1, h2, h3, h4, q1⟩ => wpAny_bind (wpAny_standAt (wpAny_pure ?_)))))
  subst ex
  cases (show u = Value.ref a from r1)
  have z1 : (1000 : Nat) ≤ sizeLine := by rw [sizeLine_eq]; decide
  refine wpAny_bind (wpAny_onRaise (wpAny_tryCatch (wpAny_onRaise (wpAny_holding (d_merge I2 h1 h2 h3 (by rw [List.length_nil, Nat.zero_add]; exact Nat.le_trans h4 z1) fun s2 I3 => ?_)))))
  rw [if_neg (show ¬ ((0 + 1 == 17) = true) by decide)]
  simp only [pure_bind, bind_assoc, Bool.false_eq_true, if_false]
  show wpAny _ _ (holding [Value.ref s.heap.objs.size] (subDict [(eval ek X.env, do let x ← eval ev X.env; standAt pos; pure x)]) >>= _) _ _ _
  have hn2 := I3.hok.fresh (Nat.le_refl s2.heap.objs.size)
  have I3' := I3.laid (a := s2.heap.objs.size) (o := .dK []) (h' := s2.heap.push { cls := .type "dict", data := .dict #[] }) (t' := s2.toks) (fun _ _ q => Heap.get?_push_of_some _ q) (Nat.le_refl _) (dk_empty s2.heap I3.big)
  refine wpAny_bind (wpAny_holding (wpAny_subDict (knd := mixKind X.prog X.w) (by show 1 ≤ 15; decide) ?_))
  refine evalPairs_cons (thn (hk.run pins _ σ _ _ I3' (q1 _ hn2)) fun uk s4 ⟨yk, H3, I4, rk, q2⟩ => ?_)
  refine wpAny_bind (thn (hv.run pins _ σ _ _ I4 q2) fun uv s5 ⟨yv, H4, I5, rv, g1, g2, g3, key, ey, q3⟩ => wpAny_bind (wpAny_standAt (wpAny_pure ?_)))
  refine evalPairs_nil ?_
  subst ey
  obtain ⟨z, hd, vs0, r0, dd⟩ := dk_of I5.hok g1
  cases r0
  refine ⟨[(key, uv)], ⟨kV_is rk, rfl, trivial⟩, dd, fun h' d1 hs => ?_⟩
  have he : ∃ q, h'.get? s2.heap.objs.size = some q := let ⟨q, _, _, hq, _⟩ := d1; ⟨q, hq⟩
  have I6 : L2.Inv X pins σ (upd H4 s2.heap.objs.size (.dK [(key, yv)])) { s5 with heap := h', toks := s5.toks + 1 } := d_write I5 (by rw [g1]; exact True.intro) hs he (dk_new (by show 1 ≤ sizeLine; rw [sizeLine_eq]; decide) hd (.cons ⟨rfl, rv⟩ .nil) d1)
  have l1 := length_mergeK ka []
  rw [List.length_nil] at l1
  have m1 : upd H4 s2.heap.objs.size (.dK [(key, yv)]) s.heap.objs.size = some (.dK (mergeK [] ka)) := by rw [upd_ne g3]; exact g2
  refine wpAny_bind (wpAny_onRaise (wpAny_holding (d_merge I6 m1 (.inl upd_same) g3 (by rw [sizeLine_eq]; show _ + 1 ≤ _; omega) fun s7 I7 => ?_)))
  exact wpAny_pure ⟨.ref _, _, I7, rfl, q3⟩
end Own
set_option Elab.async false
set_option linter.all false
set_option maxRecDepth 100000
set_option maxHeartbeats 2000000
/-! an exception out of a loop over a locked dict -/
namespace Own
open PySem PySem.Spec PyProof.Rows L2
theorem takes_unlock {X : Cx} {W : WX} (tk : Takes X W) : Takes X (fun c d σ H => ∃ p od u, H p = some (.frz od u) ∧ (∀ o' u', X.H_0 p ≠ some (.frz o' u')) ∧ W c d σ (upd H p u)) := fun u s' ⟨a, B, sI, pins, σ, H, cls, d, e, I, nb, up, sky, na, os, ag, p, od, u0, h1, h2, w⟩ =>
  tk u s' ⟨a, B, sI, pins, σ, upd H p u0, cls, d, e, I.unlock h1 h2, nb, up, sky, by rw [upd_ne (fun z => by rw [z, h1] at na; cases na)]; exact na, os, ag, w⟩
end Own
set_option Elab.async false
set_option linter.all false
set_option maxRecDepth 100000
set_option maxHeartbeats 2000000
/-! a dict not in a list of dicts -/
namespace Own
open PySem PySem.Spec PyProof.Rows L2
section
open PySem.AutoSeq1 PySem.MeetsSeq PySem.SeqAt PySem.W
variable {prog : Program} {w : World}
/-- what `in` of a list asks at each step, in one program -/
def stepD (prog : Program) (w : World) (l : Addr) (zs : Array Value) (n : Nat) (dd : Option Addr) (sl : Array (Option Value)) (x : Value) (e : Value → Bool) (b : Bool) : PySem.Spec := fun A R s =>
  s.heap.get? l = some ⟨.type "list", dd, .seq zs n, sl⟩ ∧ (∀ y ∈ zs, EqIn prog w A.in1 s y x (e y)) ∧ R (.ok (.ret (.bool b))) s
theorem loopD {l : Addr} {zs : Array Value} {n : Nat} {dd : Option Addr} {sl : Array (Option Value)} {x : Value} {e : Value → Bool} : ∀ (m i : Nat), zs.size - i = m →
    MeetsIn prog w (Builtin.«list.__contains__.loop» ⟨[.ref l, x, rawInt i], []⟩) (stepD prog w l zs n dd sl x e ((zs.toList.drop i).any e))
  | 0, i, hm => by
    rintro A R ⟨hp, g, d, tk, os⟩ ⟨q1, q2, q3⟩
    wp_walk using wpAny_loadPart' q1
    have z1 : zs[(i : Int).toNat]? = none := by simp; omega
    rw [show zs.toList.drop i = [] by simp; omega] at q3
    rw [z1]
    wp_walk
    exact q3
  | m + 1, i, hm => by
    rintro A R ⟨hp, g, d, tk, os⟩ ⟨q1, q2, q3⟩
    have lt : i < zs.size := by omega
    wp_walk using wpAny_loadPart' q1
    have z1 : zs[(i : Int).toNat]? = some zs[i] := by simp [lt]
    rw [show zs.toList.drop i = zs[i] :: zs.toList.drop (i + 1) by simp [List.drop_eq_getElem_cons, lt], List.any_cons] at q3
    rw [z1]
    refine wpAny_bind (q2 _ (Array.getElem_mem lt) _ _ ?_)
    by_cases c : e zs[i] = true
    · rw [c] at q3 ⊢
      wp_walk
      exact q3
    · have c : e zs[i] = false := by simpa using c
      rw [c] at q3 ⊢
      wp_walk
      rw [show ((i : Int) + 1) = ((i + 1 : Nat) : Int) by push_cast; rfl]
      refine ⟨plainId_quiet plain_contains_loop _, codeAny_builtin entry_contains_loop ?_⟩
      rw [Around.under_plainId plain_contains_loop _]
      exact loopD m (i + 1) (by omega) A R _ ⟨q1, q2, by simpa using q3⟩
theorem listD {l : Addr} {zs : Array Value} {n : Nat} {dd : Option Addr} {sl : Array (Option Value)} {x : Value} {e : Value → Bool} :
    MeetsIn prog w (Builtin.«list.__contains__» ⟨[.ref l, x], []⟩) (stepD prog w l zs n dd sl x e (zs.any e)) := by
  rintro A R ⟨hp, g, d, tk, os⟩ ⟨q1, q2, q3⟩
  wp_walk using wpAny_loadPart' q1
  refine ⟨plainId_quiet plain_contains_loop _, codeAny_builtin entry_contains_loop ?_⟩
  rw [Around.under_plainId plain_contains_loop _]
  exact loopD _ 0 rfl A R _ ⟨q1, q2, by simpa using q3⟩
theorem notInD {A : Around} {E : Value → Shared → Prop} {s : Shared} {l : Addr} {zs : Array Value} {x : Value} {Q : Value → Shared → Prop} (e : Value → Bool) (hl : s.heap.IsList l zs) (he : ∀ y ∈ zs, EqIn prog w A.in1 s y x (e y)) (h : Q (.bool (!zs.any e)) s) :
    wpAny (model prog w) A (compareOp .NotIn x (.ref l)) Q E s := by
  obtain ⟨⟨cls, dd, data, sl⟩, ho, hc, n, hd⟩ := id hl
  cases (show cls = _ from hc)
  cases (show data = _ from hd)
  have ty : s.TypeIs (.ref l) "list" := ⟨_, ho, rfl⟩
  show wpAny _ A (do return .bool (!(← contains (.ref l) x))) Q E s
  refine wpAny_bind (wpAny_contains_slot ty F.slot_list_contains (wpAny_mono (call_meetsIn F.slot_list_contains ty F.entry_list_contains (F.args_list_contains_2 _ _) (listD (n := n) (dd := dd) (sl := sl) (x := x) (e := e)) (Q := fun v s' => ∃ b, v = .bool b ∧ Q (.bool !b) s') (E := E) ⟨ho, he, _, rfl, h⟩) (fun v s' hv => ?_) fun _ _ z => z))
  obtain ⟨b, rfl, q⟩ := hv
  exact wpAny_truthy_bool (wpAny_pure q)
end
theorem vals_refs : ∀ {bs : List Addr} {its : List Value}, Vals (bs.map V.ref) its → its = bs.map Value.ref
  | [], _, h => by cases h; rfl
  | b :: bs, _, h => by
    cases h with
    | cons r t =>
      rename_i y ys
      cases (show y = Value.ref b from r)
      rw [List.map_cons, vals_refs t]
/-- x not in l: dicts of flat things, none of them x itself -/
def rNotInDF (K : PySem.W.Frag) : R2 := fun x y H Q => ∃ (a l : Addr) (ks : List (Key × V)) (bs : List Addr) (e : Addr → Bool), x = .ref a ∧ y = .ref l ∧ H a = some (.dK ks) ∧ (∀ k u, valV ks k = some u → flatV u = true) ∧ SqL K H l (bs.map V.ref) ∧
  (∀ b ∈ bs, b ≠ a ∧ ∃ ls, H b = some (.dK ls) ∧ (∀ p ∈ ls, flatV p.2 = true) ∧ e b = (ls.length == ks.length && eqKv ls ks)) ∧ Q (.bl (!bs.any e)) H
theorem op_notInDF {X : Cx} (hu : X.A.units + 64 < cLine) : OpR X (compareOp .NotIn) (rNotInDF X.K) := by
  rintro pins s σ H x y v u Q I rx ry ⟨a, l, ks, bs, e, rfl, rfl, ha, fa, hl, hb, q⟩
  cases (show v = Value.ref a from rx)
  cases (show u = Value.ref l from ry)
  obtain ⟨_, ya, va, ra, da⟩ := (show ObjOk X.prog X.w H s.heap a (.dK ks) from I.hok a _ ha)
  obtain ⟨its, rv, ⟨⟨cls, dd, data, sls⟩, n, ho, hc, hdn, hdt⟩, hlen⟩ := I.list hl
  simp only at hc hdt
  subst hc hdt
  have la : ks.length = va.length := by unfold KV at ra; exact ra.length
  obtain rfl := vals_refs rv
  refine notInD (fun z => match z with | .ref b => e b | _ => false) ⟨_, ho, rfl, n, rfl⟩ (fun z hz => ?_) ?_
  · have hz : z ∈ bs.map Value.ref := by simpa using hz
    obtain ⟨b, hm, rfl⟩ := List.mem_map.mp hz
    obtain ⟨ne, ls, hbl, fl, he⟩ := hb b hm
    obtain ⟨_, yb, vb, rb, db⟩ := (show ObjOk X.prog X.w H s.heap b (.dK ls) from I.hok b _ hbl)
    have lb : ls.length = vb.length := by unfold KV at rb; exact rb.length
    refine PySem.SeqAt.EqIn.of_refs ne fun E Q h => ?_
    show wpAny (model X.prog X.w) X.A.in1 (compareOp .Eq (.ref b) (.ref a)) Q E s
    have hu2 : X.A.in1.units < cLine := (show X.A.units + 1 < cLine by omega)
    refine PySem.W.keq_eq (knd := mixKind X.prog X.w) (r := eqKv ls ks) yb ya db da hu2 (fun _ => hits_flatA ra fa rb fl) ?_
    rw [← la, ← lb, ← he]
    exact h
  · have e2 : ((bs.map Value.ref).toArray.any fun z => match z with | .ref b => e b | _ => false) = bs.any e := by
      rw [← Array.any_toList]
      simp only [List.any_map]
      rfl
    rw [e2]
    exact ⟨.bl _, H, I, rfl, q⟩
end Own
set_option Elab.async false
set_option linter.all false
set_option maxRecDepth 100000
set_option maxHeartbeats 2000000
/-! a dict behind a star: its keys -/
namespace Own
open PySem PySem.Spec PyProof.Rows L2
section
variable {X : Cx} {pins : List (Addr × Obj)} {σ : L2.St} {H : Hp} {s : Shared}
theorem star_dict {a : Addr} {kvs : List (Key × V)} {E : Value → Shared → Prop} {Q : List Value → Shared → Prop} (I : L2.Inv X pins σ H s) (hcalm : X.calm = true) (hd : Rd H a (.dK kvs)) (hQ : ∀ us s', L2.Inv X pins σ H s' → Vals (kvs.map fun kv => kV kv.1) us → Q us s') : PySem.W.StarOf (model X.prog X.w) X.A E (.ref a) Q s := by
  obtain ⟨z, lo, vs, rel, dd⟩ := dk_rd I.hok hd
  obtain ⟨ep, hat⟩ := dd.dictAt
  have ek : (kvs.map fun kv => kV kv.1) = vs.map fun p => kV p.1 := by
    have e := congrArg (List.map kV) rel.keys
    rw [List.map_map, List.map_map] at e
    exact e
  unfold PySem.W.StarOf notIterableAtAll
  refine wpAny_bind (wpAny_specialOf hat.dictOf.typeIs PySem.F.slot_dict_iter.lookup (wpAny_pure ⟨rfl, ?_⟩))
  refine PySem.W.kdu_collect (PySem.W.kdl_dict (knd := mixKind X.prog X.w) (kvs := vs) (ep := ep) lo) (I.ok.hd hcalm) hat (by rw [← rel.length]; exact z) fun h' tk acc hk hacc => ?_
  refine hQ _ _ (I.kept (t' := tk) hk) ?_
  rw [ek]
  exact keys_at (by rw [Array.length_toList]; exact hacc.1) fun j v e => hacc.2 j v (by rw [← Array.getElem?_toList]; exact e)
end
section
variable {X : Cx} {e : Expr} {es : List Expr} {te : TE} {t : TA} {p : Pos}
def tStarD (te : TE) (t : TA) : TA := fun σ H Q => te σ H fun x H1 => ∃ a kvs, x = V.ref a ∧ Rd H1 a (.dK kvs) ∧ t σ H1 fun ys H2 => Q ((kvs.map fun kv => kV kv.1) ++ ys) H2
theorem pa_starD (hcalm : X.calm = true) (he : PE X e te) (hr : PA X es t) (hs : starEach (.Starred e p :: es) X.env = (true, eval e X.env) :: starEach es X.env := by rfl) : PA X (.Starred e p :: es) (tStarD te t) := by
  refine ⟨fun pos pins s σ H Q I h => ?_⟩
  refine PySem.W.items_star (thn (he.run pins s σ H _ I h) fun v s1 ⟨y, H1, I1, ry, a, kvs, ey, hx, q⟩ => ?_) hs
  subst ey
  obtain rfl : v = Value.ref a := ry
  refine star_dict I1 hcalm hx fun us s2 I2 rv => ?_
  exact thn (hr.run pos pins s2 σ H1 _ I2 q) fun ws s3 ⟨vs, H3, I3, r3, q3⟩ => ⟨_ ++ vs, H3, I3, rv.append r3, q3⟩
end
end Own
set_option Elab.async false
set_option linter.all false
set_option maxRecDepth 100000
/-! a list of anything != [] -/
namespace Own
open PySem PySem.Spec PyProof.Rows L2
def rNeNil (K : PySem.W.Frag) : R2 := fun x y H Q => ∃ a b xs, x = .ref a ∧ y = .ref b ∧ SqL K H a xs ∧ SqL K H b [] ∧ Q (.bl (!xs.isEmpty)) H
theorem op_neNil {X : Cx} (hu : X.A.units + 64 < cLine) : OpR X (compareOp .NotEq) (rNeNil X.K) := by
  rintro pins s σ H x y v u Q I rx ry ⟨a, b, xs, rfl, rfl, ha, hb, q⟩
  cases (show v = Value.ref a from rx)
  cases (show u = Value.ref b from ry)
  obtain ⟨us, r1, p1, _⟩ := I.list ha
  obtain ⟨ws, r2, p2, _⟩ := I.list hb
  cases r2
  cases r1 with
  | nil => exact SeqAt.RcNeAt.lists (e := fun _ => true) p1.isList p2.isList rfl (by omega) (fun j h _ => absurd h (Nat.not_lt_zero _)) _ _ _ _ ⟨.bl _, H, I, rfl, q⟩
  | cons h t => exact SeqAt.RcNeAt.lists_lengths p1.isList p2.isList (by simp) (by omega) _ _ _ _ ⟨.bl _, H, I, rfl, q⟩
def rEqNil (K : PySem.W.Frag) : R2 := fun x y H Q => ∃ a b xs, x = .ref a ∧ y = .ref b ∧ SqL K H a xs ∧ SqL K H b [] ∧ Q (.bl xs.isEmpty) H
theorem op_eqNil {X : Cx} (hu : X.A.units + 64 < cLine) : OpR X (compareOp .Eq) (rEqNil X.K) := by
  rintro pins s σ H x y v u Q I rx ry ⟨a, b, xs, rfl, rfl, ha, hb, q⟩
  cases (show v = Value.ref a from rx)
  cases (show u = Value.ref b from ry)
  obtain ⟨us, r1, p1, _⟩ := I.list ha
  obtain ⟨ws, r2, p2, _⟩ := I.list hb
  cases r2
  cases r1 with
  | nil => exact SeqAt.RcAt.lists (e := fun _ => true) p1.isList p2.isList rfl (by omega) (fun j h _ => absurd h (Nat.not_lt_zero _)) _ _ _ _ ⟨.bl _, H, I, rfl, q⟩
  | cons h t => exact SeqAt.RcAt.lists_lengths p1.isList p2.isList (by simp) (by omega) _ _ _ _ ⟨.bl _, H, I, rfl, q⟩
/-! x not in d.values() -/
def rNotInVals (K : PySem.W.Frag) : R2 := fun x y H Q => ∃ v d kvs, y = .ref v ∧ H v = some (VvO d v) ∧ Rd H d (.dK kvs) ∧ flatV x = true ∧ (kvs.map (·.2)).all flatV = true ∧ Q (.bl (!inV x (kvs.map (·.2)))) H
theorem op_notInVals {X : Cx} (hc : X.calm = true) : OpR X (compareOp .NotIn) (rNotInVals X.K) := by
  intro pins s σ H x y v u Q I rx ry ⟨va, d, kvs, ey, hv, hd, fx, fs, q⟩
  subst ey
  cases (show u = Value.ref va from ry)
  have view : s.heap.IsValuesView va d := (show ObjOk X.prog X.w H s.heap va (VvO d va) from I.hok va _ hv).1
  obtain ⟨hz, hsys, vs, rel, dof⟩ := dk_rd I.hok hd
  obtain ⟨ep, dat⟩ := dof.dictAt
  have hT := view.typeIs
  have hlv : kvs.length = vs.length := by unfold KV at rel; exact rel.length
  have hvals : Vals (kvs.map (·.2)) (vs.map (·.2)) := paired_ix (by rw [List.length_map, List.length_map]; exact hlv) fun i z e => by
    rw [List.getElem?_map] at e
    cases e2 : vs[i]? with
    | none => rw [e2] at e; cases e
    | some p =>
      rw [e2] at e
      obtain ⟨y, h1, h2⟩ := KV.at' rel (i := i) (k := p.1) (v := p.2) e2
      obtain rfl : p.2 = z := Option.some.inj e
      exact ⟨y, by rw [List.getElem?_map, h1]; rfl, h2⟩
  show wpAny (model X.prog X.w) X.A ((contains (.ref va) v) >>= fun b => pure (Value.bool !b)) (EP X pins σ Q) X.xe s
  refine wpAny_bind ?_
  unfold contains
  refine wpAny_holding ?_
  have e0 : stdlibNamesSay? (.ref va) v = none := by
    first | rfl | (cases v <;> rfl)
  simp only [e0]
  refine wpAny_bind (wpAny_specialOf hT vals_noc ?_)
  refine wpAny_ite_split (fun hab => absurd hab (by decide)) (fun _ => ?_)
  unfold callSpecialUnlessNone?
  refine wpAny_bind (wpAny_bind (wpAny_specialOf hT vals_noc ?_))
  refine wpAny_pure ?_
  refine wpAny_bind (wpAny_rule ?_)
  refine wpAny_bind (wpAny_tryCatch (wpAny_pyIter_values (knd := mixKind X.prog X.w) view dat ?_))
  have kp : ∀ b o, s.heap.get? b = some o → (s.heap.push { cls := .type "dict_valueiterator", data := .fields #[.ref d, .int 0 0, .int vs.length 0, .int ep 0] }).get? b = some o := fun b o e => Heap.get?_push_of_some _ e
  have hit : (s.heap.push { cls := .type "dict_valueiterator", data := .fields #[.ref d, .int 0 0, .int vs.length 0, .int ep 0] }).IsValIter s.heap.objs.size d 0 vs.length ep := ⟨_, Heap.get?_push_size _ rfl, rfl, rfl⟩
  have ne : d ≠ s.heap.objs.size := Nat.ne_of_lt dat.lt_size
  have W := Walks.dictValues (prog := X.prog) (w := X.w) (A := X.A.in1.in1) (knd := mixKind X.prog X.w) (I.ok.hd hc) s.heap.objs.size d ne vs ep
  have ln : (vs.map (·.2)).length = vs.length := List.length_map ..
  have W2 : Walks X.prog X.w X.A.in1 s.heap.objs.size [s.heap.objs.size, d] [s.heap.objs.size] (vs.map (·.2)).length (fun i v => (vs.map (·.2))[i]? = some v) (fun i h => h.IsValIter s.heap.objs.size d i vs.length ep ∧ h.DictAt (mixKind X.prog X.w) d vs ep) :=
    ⟨W.of_in1.sub, W.of_in1.frame, fun i s Q E hi st hQ => W.of_in1.item i s Q E (by rw [ln] at hi; exact hi) st fun z h' tk hP => hQ z h' tk (by
      obtain ⟨k, e⟩ := hP
      rw [List.getElem?_map, e]
      rfl), fun s Q E st hQ => W.of_in1.done s Q E (by rw [ln] at st; exact st) hQ, W.of_in1.self⟩
  refine wpAny_bind (wpAny_runValue (citer_loop W2 v (eqU x) (fun z hz s' => mem_eqAt rx ‹_› hvals fs z hz) _ 0 { s with heap := _ } rfl (Nat.zero_le _) ⟨hit, dat.push _⟩ fun h' tk hm => ?_))
  have kp2 : ∀ b o, s.heap.get? b = some o → h'.get? b = some o := fun b o e => hm b o (fun z => by
    rw [List.mem_singleton.mp z] at e
    exact Nat.lt_irrefl _ (Heap.lt_size e)) (kp b o e)
  have fin : wpAny (model X.prog X.w) X.A (pure (Value.bool (!inV x (kvs.map (·.2))))) (EP X pins σ Q) X.xe { s with heap := h', toks := tk } := wpAny_pure ⟨.bl _, H, I.kept (t' := tk) kp2, rfl, q⟩
  rw [List.drop_zero, any_eqU hvals fs]
  exact wpAny_pure fin
end Own
set_option Elab.async false
set_option linter.all false
set_option maxRecDepth 100000
/-! how often a text stands in a list of texts -/
namespace Own
open PySem PySem.Spec PyProof.Rows L2
theorem countU_strs {k : Str} : ∀ {zs : List Str} {us : List Value}, Vals (zs.map V.str) us → us.countP (eqU (.str k)) = zs.count k
  | [], _, .nil => rfl
  | z :: zs, u :: us, .cons r t => by
    have ih := countU_strs (k := k) t
    rw [List.countP_cons, List.count_cons, ih, eqU_of r rfl]
    rfl
def rCntS (K : PySem.W.Frag) : V → List V → Hp → VK → Prop := fun x xs H Q => ∃ (a : Addr) (zs : List Str) (k : Str), x = .ref a ∧ xs = [.str k] ∧ SqL K H a (zs.map V.str) ∧ Q (.int (zs.count k : Nat)) H
theorem mt_scount {X : Cx} : MtR X "list.count" (rCntS X.K) := by
  rintro pins s σ H x xs v us Q I rx rxs ⟨a, zs, k, rfl, rfl, ha, q⟩
  cases rx
  obtain ⟨u, rfl, ru⟩ := rxs.one
  obtain ⟨its, rv, ⟨⟨cls, dd, data, sl⟩, n, ho, hc, hdn, hd⟩, hlen⟩ := I.list ha
  simp only at hc hd
  subst hc hd
  have fl : (zs.map V.str).all flatV = true := List.all_eq_true.mpr fun z m => by
    obtain ⟨y, _, rfl⟩ := List.mem_map.mp m
    rfl
  refine call_meets PySem.F.slot_list_count ⟨_, ho, rfl⟩ PySem.F.entry_list_count (PySem.F.args_list_count_2 _ _)
    (SeqAt.list_countAt a its.toArray n dd sl u (eqU (.str k))) ⟨ho, fun y hy => mem_eqAt ru rfl rv fl y (by simpa using hy), ?_⟩
  have ec : its.toArray.toList.countP (eqU (.str k)) = zs.count k := countU_strs rv
  refine ⟨.int (zs.count k : Nat), H, I.tok _, ⟨s.toks, ?_⟩, q⟩
  rw [ec]
theorem scntOf {X : Cx} {K : PySem.W.Frag} (h : X.K = K) : MtR X "list.count" (rCntS K) := h ▸ mt_scount
theorem ixDOf {X : Cx} {K : PySem.W.Frag} (h : X.K = K) (hu : X.A.units + 65 < cLine) : MtR X "list.index" (rIndexD K) := h ▸ mt_indexD hu
theorem inDOf {X : Cx} {K : PySem.W.Frag} (h : X.K = K) (hu : X.A.units + 65 < cLine) : OpR X (compareOp .In) (rInD K) := h ▸ op_inD hu
theorem bmOf {X : Cx} {K : PySem.W.Frag} (h : X.K = K) {T id : String} {name : Str} {o e : Expr} {es : List Expr} {to : TE} {t : TA} {r : V → List V → Hp → VK → Prop} {apos cpos : Pos} (pa : PlainAttrs T) (slot : Slot T name id) (hty : typeOf (.builtin id) = pure (.type "method_descriptor")) (hm : MtR X id r) (ho : PE X o to) (ha : PA X (e :: es) t)
    (hbase : attributeBase o name X.env (eval o X.env) = eval o X.env := by rfl)
    (hfew : ((backTo cpos (starEach (e :: es) X.env)).all (fun x => !x.1) && (backToKw cpos (keywordEach [] X.env)).all (fun x => x.1.isSome)
      && decide ((e :: es).length + ([] : List Keyword).length + (if ([] : List Keyword).isEmpty then 0 else 1) < 30)) = true := by rfl)
    (hline : (apos.endLine == cpos.line) = true := by rfl) (hs : starEach (e :: es) X.env = (false, eval e X.env) :: starEach es X.env := by rfl) (hplain : (backTo cpos (starEach es X.env)).any (·.1) = false := by rfl) :
    PE X (.Call (.Attribute o name apos) (e :: es) [] cpos) (tBM K T r to t) := h ▸ pe_bm pa slot hty hm ho ha hbase hfew hline hs hplain
end Own
set_option Elab.async false
set_option linter.all false
set_option maxRecDepth 100000
/-! a != b of two dicts of the same keys, whose values are equal data -/
namespace Own
open PySem PySem.Spec PyProof.Rows L2
theorem hits_dd {X : Cx} {pins : List (Addr × Obj)} {σ : L2.St} {H : Hp} {s : Shared} (I : L2.Inv X pins σ H s) (hu : X.A.units + 65 < cLine) {ls : List (Key × V)} {vb : List (Key × Value)} (rb : KV ls vb) {ks : List (Key × V)} {va : List (Key × Value)}
    (ra : KV ks va) : (∀ p ∈ ks, ∃ u d d', valV ls p.1 = some u ∧ Dp X.K H p.2 d ∧ Dp X.K H u d' ∧ SeqAt.shaped d = true ∧ SeqAt.shaped d' = true ∧ PyData.eqv d d' = true) → PySem.W.KeqHits X.A.in1 s vb va true := by
  unfold KV at ra
  induction ra with
  | nil => intro _; exact .nil
  | @cons p q ps qs h t k =>
    intro hp
    obtain ⟨h1, h2⟩ := h
    obtain ⟨u, d, d', e, dp, du, sd, su, ee⟩ := hp p List.mem_cons_self
    have rr : RelO (some u) (valueAt vb p.1) := by rw [← e]; exact rb.val p.1
    obtain ⟨y, hy, ry⟩ := rr.some_of
    obtain ⟨key, v⟩ := q
    have h1' : p.1 = key := h1
    rw [h1'] at hy
    obtain ⟨as, r1⟩ := Dp.reads I d p.2 v dp h2
    obtain ⟨bs, r2⟩ := Dp.reads I d' u y du ry
    have hr := room_in_shaped (A := X.A) (xs := [d]) su hu
    have he : SeqAt.EqAt X.A.in1 s v y (PyData.eqv d d') := SeqAt.eqAt_reads d d' X.A.in1 s v y as bs r1 r2 (SeqAt.canLay_of_shaped sd) (SeqAt.canLay_of_shaped su) (by
      have h2 := Nat.le_max_left d.depth (PyData.depthAll [])
      have h3 : PyData.depthAll [d] = max d.depth (PyData.depthAll []) := rfl
      show X.A.units + 1 + min d.depth d'.depth < cLine
      omega)
    rw [ee] at he
    show PySem.W.KeqHits X.A.in1 s vb ((key, v) :: qs) (true && true)
    exact .hit hy he (k fun p' hm => hp p' (List.mem_cons_of_mem _ hm))
def rNeDD (K : PySem.W.Frag) : R2 := fun x y H Q => ∃ a b ks ls, x = .ref a ∧ y = .ref b ∧ H a = some (.dK ks) ∧ H b = some (.dK ls) ∧ ks.length = ls.length ∧
  (∀ p ∈ ks, ∃ u d d', valV ls p.1 = some u ∧ Dp K H p.2 d ∧ Dp K H u d' ∧ SeqAt.shaped d = true ∧ SeqAt.shaped d' = true ∧ PyData.eqv d d' = true) ∧ Q (.bl false) H
theorem op_neDD {X : Cx} (hu : X.A.units + 65 < cLine) : OpR X (compareOp .NotEq) (rNeDD X.K) := by
  rintro pins s σ H x y v u Q I rx ry ⟨a, b, ks, ls, rfl, rfl, ha, hb, hl, hp, q⟩
  cases (show v = Value.ref a from rx)
  cases (show u = Value.ref b from ry)
  obtain ⟨_, ya, va, ra, da⟩ := (show ObjOk X.prog X.w H s.heap a (.dK ks) from I.hok a _ ha)
  obtain ⟨_, yb, vb, rb, db⟩ := (show ObjOk X.prog X.w H s.heap b (.dK ls) from I.hok b _ hb)
  have la : ks.length = va.length := by unfold KV at ra; exact ra.length
  have lb : ls.length = vb.length := by unfold KV at rb; exact rb.length
  refine PySem.W.keq_ne (knd := mixKind X.prog X.w) (r := true) ya yb da db (by omega) (fun _ => hits_dd I hu rb ra hp) ?_
  rw [show va.length = vb.length by omega, show (!(vb.length == vb.length && true)) = false by simp]
  exact ⟨.bl _, H, I, rfl, q⟩
end Own
set_option Elab.async false
set_option linter.all false
set_option maxRecDepth 100000
set_option maxHeartbeats 2000000
/-! an instance with an own __iter__ behind a star: the keys of the dict that it walks -/
namespace Own
open PySem PySem.Spec PyProof.Rows L2
section
variable {X : Cx} {CX : CXT} {C f g : Addr} {fd gd : FuncData} {ps qs : List Str} {n m : Nat} {sp : Nat → Sp} {sl : Sp} {E : XK}
theorem key_loopR {pins : List (Addr × Obj)} {σ : L2.St} {A : Around} {Rs : Result → Shared → Prop} {S d it : Addr} {od : Obj} {kvs : List (Key × V)} {ep : Nat} {es : Array DictEntry} {rt : Value} (hh : A.handled = none) (hod : od.data = .dict es ep) (hz : kvs.length ≤ sizeLine) (hS : S ≠ it) (hSd : S ≠ d)
    : ∀ (k i : Nat) (H : Hp) (s : Shared), kvs.length - i = k → i ≤ kvs.length → L2.Inv X pins σ H s → FpOk X pins H it → H d = some (.frz od (.dK kvs)) → H S = some (.lst ((kvs.take i).map fun p => kV p.1)) → s.heap.IsKeyIter it d i kvs.length ep →
      (∀ s', L2.Inv X pins σ (upd H S (.lst (kvs.map fun p => kV p.1))) s' → Rs (.ok (.ret rt)) s') →
      codeAny (model X.prog X.w) A (.builtin "list.extend.loop" ⟨[.ref S, .ref it, rt], []⟩) Rs s := by
  intro k
  induction k with
  | zero =>
    intro i H s hk hi I fp hd hl st hR
    have e : i = kvs.length := by omega
    subst e
    obtain ⟨f0, f1, f2, f3, f4, f5⟩ := fp
    obtain ⟨_, hgd, _, es2, ep2, vs, hdt, hsz, kv, hm⟩ := I.frzK hd
    obtain ⟨e1, e2⟩ := dict_ep hod hdt
    subst e1
    subst e2
    refine codeAny_builtin PySem.F.entry_extend_loop ?_
    rw [Around.under_plainId PySem.F.plain_extend_loop _]
    show wpAny _ A.in1 (pyNext (.ref it) >>= _) _ _ s
    refine wpAny_bind (next_key_end hh st hgd hdt hsz (Nat.le_refl _) fun h' eb => ?_)
    have I1 := I.turned (t' := s.toks) (fun b o hb e => eb b o hb e) f0 f1 f3 f4 f5
    rw [List.take_length] at hl
    refine wpAny_pure (hR _ ?_)
    rw [show upd H S (.lst (kvs.map fun p => kV p.1)) = H from by
      funext b
      by_cases hb : b = S
      · rw [hb, upd_same, hl]
      · rw [upd_ne hb]]
    exact I1
  | succ k ih =>
    intro i H s hk hi I fp hd hl st hR
    have hlt : i < kvs.length := by omega
    obtain ⟨f0, f1, f2, f3, f4, f5⟩ := fp
    obtain ⟨_, hgd, _, es2, ep2, vs, hdt, hsz, kv, hm⟩ := I.frzK hd
    obtain ⟨e1, e2⟩ := dict_ep hod hdt
    subst e1
    subst e2
    have hlv : kvs.length = vs.length := Paired.length kv
    obtain ⟨u, hu, ru⟩ := kv_get kv (show kvs[i]? = some (kvs[i].1, kvs[i].2) from List.getElem?_eq_getElem hlt)
    refine codeAny_builtin PySem.F.entry_extend_loop ?_
    rw [Around.under_plainId PySem.F.plain_extend_loop _]
    show wpAny _ A.in1 (pyNext (.ref it) >>= _) _ _ s
    rw [hlv] at st
    refine wpAny_bind (wpAny_pyNext_dict_item st hm hu fun key h' hkey st' sb => ?_)
    have I1 : L2.Inv X pins σ H { s with heap := h' } := I.turned (t' := s.toks) (fun b ob hb e => (sb.2 b hb).trans e) f0 f1 f3 f4 f5
    obtain ⟨z, its, cc, r2, hln, e⟩ := I1.lstM hl
    have lt2 : its.length = i := by rw [← hln, List.length_map, List.length_take]; omega
    show wpAny _ A.in1 (updateSeq S (·.push key) >>= _) _ _ _
    have et : (kvs.take (i + 1)).map (fun p => kV p.1) = (kvs.take i).map (fun p => kV p.1) ++ [kV kvs[i].1] := by rw [List.take_succ, List.getElem?_eq_getElem hlt, List.map_append]; rfl
    refine wpAny_bind (wpAny_updateSeq e rfl (wpAny_pure ⟨plainId_quiet PySem.F.plain_extend_loop _, ?_⟩) (by rw [List.size_toArray]; omega) (by show (its.toArray.push key).size ≤ sizeLine + 1; rw [Array.size_push, List.size_toArray]; omega))
    have I3 := I1.lset (f := (·.push key)) (its' := its ++ [key]) (t' := s.toks) hl e (by simp) (r2.append (.cons (relV_key (show keyIs kvs[i].1 key = true from hkey)) .nil)) (by rw [List.length_append, List.length_singleton, List.length_map, List.length_take]; omega)
    rw [← et] at I3
    have hit2 : (upd H S (.lst ((kvs.take (i + 1)).map fun p => kV p.1))) it = none := by rw [upd_ne hS.symm]; exact f0
    refine ih (i + 1) _ _ (by omega) hlt I3 ⟨hit2, f1, f2, f3, f4, f5⟩ (by rw [upd_ne hSd.symm]; exact hd) upd_same ?_ (fun s' J => hR s' (by rw [upd_upd] at J; exact J))
    show (h'.update S _).IsKeyIter it d (i + 1) kvs.length _
    rw [hlv]
    exact st'.at fun o e => (Heap.get?_update_other _ _ hS).trans e
theorem list_fillR {pins : List (Addr × Obj)} {σ : L2.St} {A : Around} {Rs : Result → Shared → Prop} {S a dx : Addr} {fs : List (Str × V)} {H : Hp} {s : Shared} {Q : VK} {rt : Value}
    (F : ∀ base, FnOk X.prog X.w X.K X.mg base CX n f fd ps (sp base.objs.size)) (hb : L2.Binds X.K fd ps []) (hx : Passes CX X E) (hr : Room n A.in1) (hfr : A.in1.frames = X.A.frames) (hh : A.handled = none)
    (hs : PySem.W.findIn X.K (.ref C) "__iter__" = some (some (.ref f))) (hf : PySem.W.isFn X.K (.ref f) = true) (n1 : PySem.W.findIn X.K (.ref C) "__len__" = some none) (n2 : PySem.W.findIn X.K (.ref C) "__length_hint__" = some none)
    (I : L2.Inv X pins σ H s) (ha : H a = some (.ins C dx fs)) (hS : H S = some (.lst [])) (hsp : ∀ m, sp m [.ref a] H (ListTold C a S Q m) E)
    (done : ∀ H' s', L2.Inv X pins σ H' s' → Q (.ref S) H' → Rs (.ok (.ret rt)) s') (bad : ∀ e s', X.xe e s' → Rs (.error e) s') :
    wpAny (model X.prog X.w) A.in1 (Builtin.List.listExtendWith (.ref S) (.ref a) rt)
      (fun fin s' => match fin with | .done g => Rs (.ok g) s' | .again c' => c'.quiet = true ∧ codeAny (model X.prog X.w) A c' Rs s') (fun e s' => Rs (.error e) s') s := by
  have neS : S ≠ a := ne_of hS ha (fun z => nomatch z)
  obtain ⟨mA, J, _⟩ := ins_get I.hok ha
  obtain ⟨od0, J, _⟩ := J.look
  have t1 : Builtin.List.listSameRef (.ref S) (.ref a) = false := by simp [Builtin.List.listSameRef, neS]
  have t2 : (Value.ref C == Value.type "list" || Value.ref C == Value.type "tuple") = false := rfl
  unfold Builtin.List.listExtendWith
  refine wpAny_bind (J.type.here ?_)
  rw [t1, Bool.false_or]
  simp only [t2, Bool.false_eq_true, if_false]
  refine wpAny_bind (wpAny_mono (own_it F hb hx hr hfr hs hf (fun m v H2 ⟨it, d, od, kvs, e1, e2, _⟩ => ⟨it, d, od, e1, e2⟩) I ha hsp) (fun u s2 h2 => ?_) bad)
  obtain ⟨it0, H2, eu, I2, it, d, od, kvs, e0, hi, hd, hS2, hz, ⟨dx2, fs2, ha2⟩, hQ⟩ := h2
  subst eu
  have e9 : it = it0 := by cases e0; rfl
  subst e9
  obtain ⟨mB, J2, _⟩ := ins_get I2.hok ha2
  obtain ⟨od2, J2, _⟩ := J2.look
  refine wpAny_bind (wpAny_holding (hint_no n1 n2 I2.kIn J2 ?_))
  obtain ⟨es, ep, hod, hk⟩ := (show ObjOk X.prog X.w H2 s2.heap it (KiO d od it) from I2.hok it _ hi).1
  obtain ⟨_, _, _, es2, ep2, vs, hdt, hsz, kv, hm⟩ := I2.frzK hd
  obtain ⟨e1, e2⟩ := dict_ep hod hdt
  subst e1
  have nSi : S ≠ it := fun e => by rw [e, hi] at hS2; cases hS2
  have nSd : S ≠ d := fun e => by rw [e, hd] at hS2; cases hS2
  have ndi : d ≠ it := fun e => by rw [e, hi] at hd; cases hd
  have hzk : kvs.length ≤ sizeLine := (dk_rd I2.hok (.inr ⟨od, hd⟩)).1
  have I3 := ItX.inv_drop I2 hi
  have fp := ItX.inv_fp I2 hi (Nat.le_trans I.sz hz)
  have hS3 : ItX.dropH H2 it S = some (.lst []) := (ItX.dropH_ne nSi).trans hS2
  have hd3 : ItX.dropH H2 it d = some (.frz od (.dK kvs)) := (ItX.dropH_ne ndi).trans hd
  generalize ItX.dropH H2 it = H3 at I3 fp hS3 hd3 hQ
  have go : ∀ (s' : Shared), L2.Inv X pins σ H3 s' → s'.heap.IsKeyIter it d 0 kvs.length ep → codeAny (model X.prog X.w) A (.builtin "list.extend.loop" ⟨[.ref S, .ref it, rt], []⟩) Rs s' := fun s' I' st' =>
    key_loopR hh hod hzk nSi nSd _ 0 H3 s' rfl (Nat.zero_le _) I' fp hd3 hS3 st' fun s'' I'' => done _ s'' I'' hQ
  rw [hsz] at hk
  obtain ⟨zz, its, cc, r3, ln3, e3⟩ := I3.lstM hS3
  cases r3
  refine wpAny_ite_split (fun _ => ?_) (fun _ => wpAny_pure ⟨plainId_quiet PySem.F.plain_extend_loop _, go s2 I3 hk⟩)
  refine wpAny_bind (wpAny_rule (wpAny_bind ?_))
  show wpAny _ _ (updateSeq S (·.push .none) >>= fun _ => updateSeq S (·.pop)) _ _ _
  refine wpAny_bind (wpAny_updateSeq e3 rfl ?_)
  have J1 := I3.lset (f := (·.push Value.none)) (its' := [Value.none]) (ys := [V.non]) (t' := s2.toks) hS3 e3 (by simp) (.cons rfl .nil) (by rw [List.length_singleton, sizeLine_eq]; decide)
  obtain ⟨z4, its4, c4, r4, ln4, e4⟩ := J1.lstM upd_same
  obtain ⟨u4, rfl, ru4⟩ := r4.one
  refine wpAny_updateSeq e4 rfl (wpAny_pure ⟨plainId_quiet PySem.F.plain_extend_loop _, go _ ?_ ?_⟩) (by show 1 ≤ sizeLine; rw [sizeLine_eq]; decide) (by show 0 ≤ sizeLine + 1; exact Nat.zero_le _)
  · have J2 := J1.lset (f := (·.pop)) (its := [u4]) (its' := []) (ys := []) (t' := s2.toks) upd_same e4 (by rfl) .nil (Nat.zero_le _)
    rw [upd_upd, show upd H3 S (.lst []) = H3 from by
      funext b
      by_cases hb : b = S
      · rw [hb, upd_same, hS3]
      · rw [upd_ne hb]] at J2
    exact J2
  · exact hk.at fun o e => (Heap.get?_update_other _ _ nSi).trans ((Heap.get?_update_other _ _ nSi).trans e)
theorem list_fillLR {pins : List (Addr × Obj)} {σ : L2.St} {A : Around} {Rs : Result → Shared → Prop} {S a dx : Addr} {fs : List (Str × V)} {H : Hp} {s : Shared} {Q : VK} {rt : Value}
    (F : ∀ base, FnOk X.prog X.w X.K X.mg base CX n f fd ps (sp base.objs.size)) (hb : L2.Binds X.K fd ps []) (hx : Passes CX X E) (hr : Room n A.in1) (hrm : Room (m + 1) A.in1) (hfr : A.in1.frames = X.A.frames) (hh : A.handled = none)
    (hs : PySem.W.findIn X.K (.ref C) "__iter__" = some (some (.ref f))) (hf : PySem.W.isFn X.K (.ref f) = true) (G : FnOk X.prog X.w X.K X.mg X.base CX0 m g gd qs sl) (hgb : L2.Binds X.K gd qs []) (n1 : PySem.W.findIn X.K (.ref C) "__len__" = some (some (.ref g))) (n2 : PySem.W.isFn X.K (.ref g) = true)
    (I : L2.Inv X pins σ H s) (ha : H a = some (.ins C dx fs)) (hS : H S = some (.lst [])) (hsp : ∀ m, sp m [.ref a] H (ListToldL C a S sl E Q m) E)
    (done : ∀ H' s', L2.Inv X pins σ H' s' → Q (.ref S) H' → Rs (.ok (.ret rt)) s') (bad : ∀ e s', X.xe e s' → Rs (.error e) s') :
    wpAny (model X.prog X.w) A.in1 (Builtin.List.listExtendWith (.ref S) (.ref a) rt)
      (fun fin s' => match fin with | .done g => Rs (.ok g) s' | .again c' => c'.quiet = true ∧ codeAny (model X.prog X.w) A c' Rs s') (fun e s' => Rs (.error e) s') s := by
  have neS : S ≠ a := ne_of hS ha (fun z => nomatch z)
  obtain ⟨mA, J, _⟩ := ins_get I.hok ha
  obtain ⟨od0, J, _⟩ := J.look
  have t1 : Builtin.List.listSameRef (.ref S) (.ref a) = false := by simp [Builtin.List.listSameRef, neS]
  have t2 : (Value.ref C == Value.type "list" || Value.ref C == Value.type "tuple") = false := rfl
  unfold Builtin.List.listExtendWith
  refine wpAny_bind (J.type.here ?_)
  rw [t1, Bool.false_or]
  simp only [t2, Bool.false_eq_true, if_false]
  refine wpAny_bind (wpAny_mono (own_it F hb hx hr hfr hs hf (fun m v H2 ⟨it, d, od, kvs, e1, e2, _⟩ => ⟨it, d, od, e1, e2⟩) I ha hsp) (fun u s2 h2 => ?_) bad)
  obtain ⟨it0, H2, eu, I2, it, d, od, kvs, e0, hi, hd, hS2, hz, ⟨dx2, fs2, ha2⟩, hL, hQ⟩ := h2
  subst eu
  have e9 : it = it0 := by cases e0; rfl
  subst e9
  obtain ⟨mB, J2, _⟩ := ins_get I2.hok ha2
  obtain ⟨od2, J2, _⟩ := J2.look
  refine wpAny_bind (wpAny_holding (hint_own G hgb hrm hfr n1 n2 I2 ha2 hL fun b9 s2 I2 => ?_))
  obtain ⟨es, ep, hod, hk⟩ := (show ObjOk X.prog X.w H2 s2.heap it (KiO d od it) from I2.hok it _ hi).1
  obtain ⟨_, _, _, es2, ep2, vs, hdt, hsz, kv, hm⟩ := I2.frzK hd
  obtain ⟨e1, e2⟩ := dict_ep hod hdt
  subst e1
  have nSi : S ≠ it := fun e => by rw [e, hi] at hS2; cases hS2
  have nSd : S ≠ d := fun e => by rw [e, hd] at hS2; cases hS2
  have ndi : d ≠ it := fun e => by rw [e, hi] at hd; cases hd
  have hzk : kvs.length ≤ sizeLine := (dk_rd I2.hok (.inr ⟨od, hd⟩)).1
  have I3 := ItX.inv_drop I2 hi
  have fp := ItX.inv_fp I2 hi (Nat.le_trans I.sz hz)
  have hS3 : ItX.dropH H2 it S = some (.lst []) := (ItX.dropH_ne nSi).trans hS2
  have hd3 : ItX.dropH H2 it d = some (.frz od (.dK kvs)) := (ItX.dropH_ne ndi).trans hd
  generalize ItX.dropH H2 it = H3 at I3 fp hS3 hd3 hQ
  have go : ∀ (s' : Shared), L2.Inv X pins σ H3 s' → s'.heap.IsKeyIter it d 0 kvs.length ep → codeAny (model X.prog X.w) A (.builtin "list.extend.loop" ⟨[.ref S, .ref it, rt], []⟩) Rs s' := fun s' I' st' =>
    key_loopR hh hod hzk nSi nSd _ 0 H3 s' rfl (Nat.zero_le _) I' fp hd3 hS3 st' fun s'' I'' => done _ s'' I'' hQ
  rw [hsz] at hk
  obtain ⟨zz, its, cc, r3, ln3, e3⟩ := I3.lstM hS3
  cases r3
  refine wpAny_ite_split (fun _ => ?_) (fun _ => wpAny_pure ⟨plainId_quiet PySem.F.plain_extend_loop _, go s2 I3 hk⟩)
  refine wpAny_bind (wpAny_rule (wpAny_bind ?_))
  show wpAny _ _ (updateSeq S (·.push .none) >>= fun _ => updateSeq S (·.pop)) _ _ _
  refine wpAny_bind (wpAny_updateSeq e3 rfl ?_)
  have J1 := I3.lset (f := (·.push Value.none)) (its' := [Value.none]) (ys := [V.non]) (t' := s2.toks) hS3 e3 (by simp) (.cons rfl .nil) (by rw [List.length_singleton, sizeLine_eq]; decide)
  obtain ⟨z4, its4, c4, r4, ln4, e4⟩ := J1.lstM upd_same
  obtain ⟨u4, rfl, ru4⟩ := r4.one
  refine wpAny_updateSeq e4 rfl (wpAny_pure ⟨plainId_quiet PySem.F.plain_extend_loop _, go _ ?_ ?_⟩) (by show 1 ≤ sizeLine; rw [sizeLine_eq]; decide) (by show 0 ≤ sizeLine + 1; exact Nat.zero_le _)
  · have J2 := J1.lset (f := (·.pop)) (its := [u4]) (its' := []) (ys := []) (t' := s2.toks) upd_same e4 (by rfl) .nil (Nat.zero_le _)
    rw [upd_upd, show upd H3 S (.lst []) = H3 from by
      funext b
      by_cases hb : b = S
      · rw [hb, upd_same, hS3]
      · rw [upd_ne hb]] at J2
    exact J2
  · exact hk.at fun o e => (Heap.get?_update_other _ _ nSi).trans ((Heap.get?_update_other _ _ nSi).trans e)
theorem iter_own {pins : List (Addr × Obj)} {σ : L2.St} {H : Hp} {s : Shared} {a dx : Addr} {fs : List (Str × V)} {E0 : Value → Shared → Prop} {Q : Bool → Shared → Prop} (I : L2.Inv X pins σ H s) (ha : H a = some (.ins C dx fs))
    (hs : PySem.W.findIn X.K (.ref C) "__iter__" = some (some (.ref f))) (hf : PySem.W.isFn X.K (.ref f) = true) (q : Q false s) : wpAny (model X.prog X.w) X.A (notIterableAtAll (.ref a)) Q E0 s := by
  obtain ⟨mA, J, _⟩ := ins_get I.hok ha
  obtain ⟨od0, J, _⟩ := J.look
  unfold notIterableAtAll specialOf
  refine wpAny_bind (wpAny_bind (J.type.here ((PySem.W.looks_findIn I.kIn hs).here ?_)))
  exact wpAny_pure q
/-- what lies in the list S that the walk filled -/
def StarQ (S : Addr) (k : List V → Hp → Prop) : VK := fun v H' => ∃ ys, H' S = some (.lst ys) ∧ k ys H'
theorem star_own {pins : List (Addr × Obj)} {σ : L2.St} {H : Hp} {s : Shared} {a dx : Addr} {fs : List (Str × V)} {k : List V → Hp → Prop} {R : List Value → Shared → Prop}
    (F : ∀ base, FnOk X.prog X.w X.K X.mg base CX n f fd ps (sp base.objs.size)) (hb : L2.Binds X.K fd ps []) (hx : Passes CX X E) (hc : X.calm = true) (hr : Room (n + 1) X.A)
    (hs : PySem.W.findIn X.K (.ref C) "__iter__" = some (some (.ref f))) (hf : PySem.W.isFn X.K (.ref f) = true) (n1 : PySem.W.findIn X.K (.ref C) "__len__" = some none) (n2 : PySem.W.findIn X.K (.ref C) "__length_hint__" = some none)
    (I : L2.Inv X pins σ H s) (ha : H a = some (.ins C dx fs)) (hq : ∀ S, H S = none → ∀ m, sp m [.ref a] (upd H S (.lst [])) (ListTold C a S (StarQ S k) m) E)
    (hR : ∀ us s' ys H', L2.Inv X pins σ H' s' → Vals ys us → k ys H' → R us s') : PySem.W.StarOf (model X.prog X.w) X.A X.xe (.ref a) R s := by
  unfold PySem.W.StarOf
  refine iter_own I ha hs hf ⟨rfl, ?_⟩
  unfold collect
  refine wpAny_bind (wpAny_runValue (codeAny_builtin PySem.F.entry_proto_collect ?_))
  rw [Around.under_plainId PySem.F.plain_proto_collect _]
  show wpAny _ X.A.in1 (newList [] >>= fun l => again (.builtin "list.__iadd__" ⟨[l, .ref a], []⟩)) _ _ s
  have fr : H s.heap.objs.size = none := I.hok.fresh (Nat.le_refl _)
  have I1 : L2.Inv X pins σ (upd H s.heap.objs.size (.lst [])) { s with heap := s.heap.push { cls := .type "list", data := .seq #[] } } := I.lnew (its := []) (t' := s.toks) .nil (Nat.zero_le _)
  refine wpAny_bind (wpAny_newObj_type ?_)
  refine wpAny_pure ⟨plainId_quiet PySem.F.plain_list_iadd _, codeAny_builtin PySem.F.entry_list_iadd ?_⟩
  rw [Around.under_plainId PySem.F.plain_list_iadd _]
  show wpAny _ X.A.in1 (Builtin.List.listExtendWith (.ref s.heap.objs.size) (.ref a) (.ref s.heap.objs.size)) _ _ _
  have key := list_fillR (A := X.A) (rt := .ref s.heap.objs.size) (Rs := wants (fun r s2 => r = .ref s.heap.objs.size ∧ EP X pins σ (StarQ s.heap.objs.size k) (.ref s.heap.objs.size) s2) X.xe) F hb hx (Room.in1 hr) rfl (I.ok.hd hc) hs hf n1 n2 I1 (by rw [upd_ne (ne_of_none ha fr)]; exact ha) upd_same (hq _ fr)
    (fun H' s' I' q => ⟨rfl, .ref _, H', I', rfl, q⟩) fun e s' he => he
  have fin : ∀ (q : Result) (s2 : Shared), wants (fun r s2 => r = .ref s.heap.objs.size ∧ EP X pins σ (StarQ s.heap.objs.size k) (.ref s.heap.objs.size) s2) X.xe q s2 →
      match q with
      | .ok (.ret v) => wpAny (model X.prog X.w) X.A (match v with
        | Value.ref a => do
          let __do_lift ← load a
          match __do_lift.data with
            | Data.seq xs epoch => pure xs.toList
            | x => unsupported "internal:collect"
        | x => unsupported "internal:collect") R X.xe s2
      | .ok _ => False
      | .error e => X.xe e s2 := fun q s2 y => by
    cases q with
    | error e => exact y
    | ok fl =>
      cases fl with
      | ret v =>
        obtain ⟨rfl, x, H', I', rx, ys, hS, hk⟩ := y
        obtain ⟨z, its, cc, r3, ln3, e3⟩ := I'.lstM hS
        refine wpAny_bind (wpAny_load e3 (wpAny_pure ?_))
        have e : its.toArray.toList = its := by simp
        rw [e]
        exact hR _ _ _ _ I' r3 hk
      | next => exact y
      | brk => exact y
      | cont => exact y
  refine wpAny_mono key (fun fn s' x => ?_) fun e s' x => x
  cases fn with
  | done q0 => exact fin _ _ x
  | again c₁ => exact ⟨x.1, codeAny_mono x.2 fun q s₂ y => fin _ _ y⟩
theorem star_ownL {pins : List (Addr × Obj)} {σ : L2.St} {H : Hp} {s : Shared} {a dx : Addr} {fs : List (Str × V)} {k : List V → Hp → Prop} {R : List Value → Shared → Prop}
    (F : ∀ base, FnOk X.prog X.w X.K X.mg base CX n f fd ps (sp base.objs.size)) (hb : L2.Binds X.K fd ps []) (hx : Passes CX X E) (hc : X.calm = true) (hr : Room (n + 1) X.A) (hrm : Room (m + 2) X.A)
    (hs : PySem.W.findIn X.K (.ref C) "__iter__" = some (some (.ref f))) (hf : PySem.W.isFn X.K (.ref f) = true) (G : FnOk X.prog X.w X.K X.mg X.base CX0 m g gd qs sl) (hgb : L2.Binds X.K gd qs []) (n1 : PySem.W.findIn X.K (.ref C) "__len__" = some (some (.ref g))) (n2 : PySem.W.isFn X.K (.ref g) = true)
    (I : L2.Inv X pins σ H s) (ha : H a = some (.ins C dx fs)) (hq : ∀ S, H S = none → ∀ m, sp m [.ref a] (upd H S (.lst [])) (ListToldL C a S sl E (StarQ S k) m) E)
    (hR : ∀ us s' ys H', L2.Inv X pins σ H' s' → Vals ys us → k ys H' → R us s') : PySem.W.StarOf (model X.prog X.w) X.A X.xe (.ref a) R s := by
  unfold PySem.W.StarOf
  refine iter_own I ha hs hf ⟨rfl, ?_⟩
  unfold collect
  refine wpAny_bind (wpAny_runValue (codeAny_builtin PySem.F.entry_proto_collect ?_))
  rw [Around.under_plainId PySem.F.plain_proto_collect _]
  show wpAny _ X.A.in1 (newList [] >>= fun l => again (.builtin "list.__iadd__" ⟨[l, .ref a], []⟩)) _ _ s
  have fr : H s.heap.objs.size = none := I.hok.fresh (Nat.le_refl _)
  have I1 : L2.Inv X pins σ (upd H s.heap.objs.size (.lst [])) { s with heap := s.heap.push { cls := .type "list", data := .seq #[] } } := I.lnew (its := []) (t' := s.toks) .nil (Nat.zero_le _)
  refine wpAny_bind (wpAny_newObj_type ?_)
  refine wpAny_pure ⟨plainId_quiet PySem.F.plain_list_iadd _, codeAny_builtin PySem.F.entry_list_iadd ?_⟩
  rw [Around.under_plainId PySem.F.plain_list_iadd _]
  show wpAny _ X.A.in1 (Builtin.List.listExtendWith (.ref s.heap.objs.size) (.ref a) (.ref s.heap.objs.size)) _ _ _
  have key := list_fillLR (A := X.A) (rt := .ref s.heap.objs.size) (Rs := wants (fun r s2 => r = .ref s.heap.objs.size ∧ EP X pins σ (StarQ s.heap.objs.size k) (.ref s.heap.objs.size) s2) X.xe) F hb hx (Room.in1 hr) (Room.in1 hrm) rfl (I.ok.hd hc) hs hf G hgb n1 n2 I1 (by rw [upd_ne (ne_of_none ha fr)]; exact ha) upd_same (hq _ fr)
    (fun H' s' I' q => ⟨rfl, .ref _, H', I', rfl, q⟩) fun e s' he => he
  have fin : ∀ (q : Result) (s2 : Shared), wants (fun r s2 => r = .ref s.heap.objs.size ∧ EP X pins σ (StarQ s.heap.objs.size k) (.ref s.heap.objs.size) s2) X.xe q s2 →
      match q with
      | .ok (.ret v) => wpAny (model X.prog X.w) X.A (match v with
        | Value.ref a => do
          let __do_lift ← load a
          match __do_lift.data with
            | Data.seq xs epoch => pure xs.toList
            | x => unsupported "internal:collect"
        | x => unsupported "internal:collect") R X.xe s2
      | .ok _ => False
      | .error e => X.xe e s2 := fun q s2 y => by
    cases q with
    | error e => exact y
    | ok fl =>
      cases fl with
      | ret v =>
        obtain ⟨rfl, x, H', I', rx, ys, hS, hk⟩ := y
        obtain ⟨z, its, cc, r3, ln3, e3⟩ := I'.lstM hS
        refine wpAny_bind (wpAny_load e3 (wpAny_pure ?_))
        have e : its.toArray.toList = its := by simp
        rw [e]
        exact hR _ _ _ _ I' r3 hk
      | next => exact y
      | brk => exact y
      | cont => exact y
  refine wpAny_mono key (fun fn s' x => ?_) fun e s' x => x
  cases fn with
  | done q0 => exact fin _ _ x
  | again c₁ => exact ⟨x.1, codeAny_mono x.2 fun q s₂ y => fin _ _ y⟩
end
section
variable {X : Cx} {CX : CXT} {C f g : Addr} {fd gd : FuncData} {ps qs : List Str} {n m : Nat} {spi : Nat → Sp} {sl : Sp} {E : XK} {e : Expr} {es : List Expr} {te : TE} {t : TA} {p : Pos}
def tStarI (C : Addr) (spi : Nat → Sp) (E : XK) (te : TE) (t : TA) : TA := fun σ H Q => te σ H fun x H1 => ∃ a dx fs, x = V.ref a ∧ H1 a = some (.ins C dx fs) ∧ ∀ S, H1 S = none → ∀ m, spi m [.ref a] (upd H1 S (.lst [])) (ListTold C a S (StarQ S fun ys H2 => t σ H2 fun zs H3 => Q (ys ++ zs) H3) m) E
def tStarIL (C : Addr) (spi : Nat → Sp) (sl : Sp) (E : XK) (te : TE) (t : TA) : TA := fun σ H Q => te σ H fun x H1 => ∃ a dx fs, x = V.ref a ∧ H1 a = some (.ins C dx fs) ∧ ∀ S, H1 S = none → ∀ m, spi m [.ref a] (upd H1 S (.lst [])) (ListToldL C a S sl E (StarQ S fun ys H2 => t σ H2 fun zs H3 => Q (ys ++ zs) H3) m) E
theorem pa_starI (F : ∀ base, FnOk X.prog X.w X.K X.mg base CX n f fd ps (spi base.objs.size)) (hb : L2.Binds X.K fd ps []) (hx : Passes CX X E) (hc : X.calm = true) (hr : Room (n + 1) X.A)
    (hs0 : PySem.W.findIn X.K (.ref C) "__iter__" = some (some (.ref f))) (hf : PySem.W.isFn X.K (.ref f) = true) (n1 : PySem.W.findIn X.K (.ref C) "__len__" = some none) (n2 : PySem.W.findIn X.K (.ref C) "__length_hint__" = some none)
    (he : PE X e te) (hr2 : PA X es t) (hs : starEach (.Starred e p :: es) X.env = (true, eval e X.env) :: starEach es X.env := by rfl) : PA X (.Starred e p :: es) (tStarI C spi E te t) := by
  refine ⟨fun pos pins s σ H Q I h => ?_⟩
  refine PySem.W.items_star (thn (he.run pins s σ H _ I h) fun v s1 ⟨y, H1, I1, ry, a, dx, fs, ey, ha, q⟩ => ?_) hs
  subst ey
  obtain rfl : v = Value.ref a := ry
  refine star_own F hb hx hc hr hs0 hf n1 n2 I1 ha q fun us s2 ys H2 I2 rv hk => ?_
  exact thn (hr2.run pos pins s2 σ H2 _ I2 hk) fun ws s3 ⟨vs, H3, I3, r3, q3⟩ => ⟨_ ++ vs, H3, I3, rv.append r3, q3⟩
theorem pa_starIL (F : ∀ base, FnOk X.prog X.w X.K X.mg base CX n f fd ps (spi base.objs.size)) (hb : L2.Binds X.K fd ps []) (hx : Passes CX X E) (hc : X.calm = true) (hr : Room (n + 1) X.A) (hrm : Room (m + 2) X.A)
    (hs0 : PySem.W.findIn X.K (.ref C) "__iter__" = some (some (.ref f))) (hf : PySem.W.isFn X.K (.ref f) = true) (G : FnOk X.prog X.w X.K X.mg X.base CX0 m g gd qs sl) (hgb : L2.Binds X.K gd qs []) (n1 : PySem.W.findIn X.K (.ref C) "__len__" = some (some (.ref g))) (n2 : PySem.W.isFn X.K (.ref g) = true)
    (he : PE X e te) (hr2 : PA X es t) (hs : starEach (.Starred e p :: es) X.env = (true, eval e X.env) :: starEach es X.env := by rfl) : PA X (.Starred e p :: es) (tStarIL C spi sl E te t) := by
  refine ⟨fun pos pins s σ H Q I h => ?_⟩
  refine PySem.W.items_star (thn (he.run pins s σ H _ I h) fun v s1 ⟨y, H1, I1, ry, a, dx, fs, ey, ha, q⟩ => ?_) hs
  subst ey
  obtain rfl : v = Value.ref a := ry
  refine star_ownL F hb hx hc hr hrm hs0 hf G hgb n1 n2 I1 ha q fun us s2 ys H2 I2 rv hk => ?_
  exact thn (hr2.run pos pins s2 σ H2 _ I2 hk) fun ws s3 ⟨vs, H3, I3, r3, q3⟩ => ⟨_ ++ vs, H3, I3, rv.append r3, q3⟩
end
end Own
set_option Elab.async false
set_option linter.all false
set_option maxRecDepth 100000
set_option maxHeartbeats 2000000
/-! sorted of a list of one thing, or of none; == of a list and a new empty one -/
namespace Own
open PySem PySem.Spec PyProof.Rows L2 PySem.Calls
section
variable {X : Cx}
def rSorted1 (K : PySem.W.Frag) : List V → Hp → VK → Prop := fun vs H Q => ∃ (a : Addr) (xs : List V), vs = [V.ref a] ∧ SqL K H a xs ∧ xs.length ≤ 1 ∧ ∀ p, H p = none → Q (.ref p) (upd H p (.lst xs))
theorem perm_one {α : Type} {xs ys : List α} (h : xs.Perm ys) (l : ys.length ≤ 1) : xs = ys := by
  match ys, l with
  | [], _ => exact h.eq_nil
  | [y], _ => exact List.perm_singleton.mp h
  | _ :: _ :: _, l => exact absurd l (by simp)
theorem cr_sorted1 : CallR X (.builtin "sorted") (rSorted1 X.K) := by
  intro pins s σ H vs us Q I r h
  obtain ⟨a, xs, rfl, hs, h1, q⟩ := h
  obtain ⟨its, rv, hl, hz⟩ := I.list hs
  obtain ⟨u, rfl, ru⟩ := vals1 r
  obtain rfl : u = Value.ref a := ru
  refine SrtO.sorted_ord (ltv := fun _ _ => false) ⟨fun _ _ _ => rfl, fun _ _ _ _ _ => rfl⟩ hl.isList (by rw [← rv.length]; exact hz) (fun h2 => absurd h2 (by rw [← rv.length]; omega)) fun out hs hb => ?_
  have e : out = its := perm_one hb.perm (by rw [← rv.length]; exact h1)
  subst e
  obtain ⟨n, hn⟩ := sortedAll_at s.heap out out.toArray
  refine ⟨.ref _, upd H _ (.lst xs), I.laid (t' := s.toks) (fun b o e => sortedAll_old e) (Nat.le_succ _) ⟨hz, out, n, rv, hn⟩, rfl, q _ (I.hok.fresh (Nat.le_succ _))⟩
theorem sorted1Of {K : PySem.W.Frag} (h : X.K = K) : CallR X (.builtin "sorted") (rSorted1 K) := h ▸ cr_sorted1
/-- name = {k: v for ..} on one row, the name a local -/
theorem ps_setDc {i : Nat} {nm : Str} {p1 p2 p3 : Pos} {ek ev target it : Expr} {cs : List Expr} {sco : Scope} {mine : List (Str × Nat)} {wI : TI} {gg : TG} {tT : TT} {tK tV : TE} (calm : X.calm = true) (nd : X.N.Nodup)
    (at_ : X.N[i]? = some nm) (loc : X.env.scope.names.lookup nm = some .local) (sw : swapsWith (.DictComp ek ev [⟨target, it, cs, 0⟩] sco p1) (some (.Name nm p2)) p3.line X.env = pure true)
    (w : PI X target it wI) (ok : BlkOk X.N X.env.scope sco mine)
    (a1 : ∀ (s : Shared) (H : Hp) (C : Addr) (cl : List (Str × Addr)) (fp : List Addr), PG (X.blk s H sco (compEnvC sco cl C X.env) fp) target gg)
    (a2 : ∀ (s : Shared) (H : Hp) (C : Addr) (cl : List (Str × Addr)) (fp : List Addr), PTs (X.blk s H sco (compEnvC sco cl C X.env) fp) cs tT)
    (a3 : ∀ (s : Shared) (H : Hp) (C : Addr) (cl : List (Str × Addr)) (fp : List Addr), PE (X.blk s H sco (compEnvC sco cl C X.env) fp) ek tK)
    (a4 : ∀ (s : Shared) (H : Hp) (C : Addr) (cl : List (Str × Addr)) (fp : List Addr), PE (X.blk s H sco (compEnvC sco cl C X.env) fp) ev tV) (a5 : ∀ x, foldedSetIterable it X.env x = pure x := by intro _; rfl) :
    PS X (.Assign [.Name nm p2] (.DictComp ek ev [⟨target, it, cs, 0⟩] sco p1) p3) (tAsg (tDc wI gg tT tK tV (mine.map (·.2))) (gName i)) := by
  refine ⟨fun pins s σ H D J q0 => ?_⟩
  rw [exec_Assign_Name_used _ _ _ _ sw]
  refine wpAny_bind (wpAny_standAt (wpAny_bind ?_))
  show wpAny _ X.A (do let _ ← comprehension (.DictComp ek ev [⟨target, it, cs, 0⟩] sco p1) sco X.env (firstIterPos [⟨target, it, cs, 0⟩] p1) newDict false (eval it X.env) (some (assign (.Name nm p2) X.env))) _ _ s
  have q1 : tDc wI gg tT tK tV (mine.map (·.2)) σ H (fun x H1 => gName i x σ H1 D.nx) := q0
  refine wpAny_bind (thn (dc_core (Qf := fun _ s1 => SP X pins D .next s1) calm nd J w ok a1 a2 a3 a4 a5 q1 fun L C s1 m H1 J1 q hn f => ?_) fun _ s1 hq => wpAny_pure (wpAny_pure hq))
  show wpAny _ _ (assign (.Name nm p2) X.env (.ref L)) _ _ _
  refine wpAny_assign_Name (store_ok2 (v := V.ref L) J1 nd at_ (.inl loc) rfl (fun s2 J2 ⟨a, sb, ha⟩ => ?_) (.inr loc))
  obtain ⟨e0, e1, e2, e3, e4, e5⟩ := f
  have ne : C ≠ a := ha.elim (fun z => by rw [z]; exact e1) fun z u => e4 nm a z u.symm
  exact ⟨m, hn.sameBut sb ne, fun h3 sb3 => ⟨_, H1, J2.turned (t' := s2.toks) (fun b o hb e => (sb3.2 b hb).trans e) e0 e1 e3 e4 e5, q⟩⟩
theorem sw_trueD {ek ev : Expr} {gs : List Comprehension} {sco : Scope} {p1 p2 : Pos} {nm : Str} {l : Nat} {env : Env} (a1 : env.scope.kind = .function) (a2 : env.scope.names.lookup nm = some .local) (a3 : (p2.line == p1.line) = true)
    (a4 : (sco.names.any fun (n, k) => n == nm && (k == .local || k == .cell)) = false) : swapsWith (.DictComp ek ev gs sco p1) (some (.Name nm p2)) l env = pure true := by
  have b1 : env.kindOf nm = some .local := a2
  have b2 : env.blockKind = .function := by
    unfold Env.blockKind
    rw [a1]; rfl
  unfold swapsWith
  simp only [b2, b1, a4, Expr.pos, a3]
  rfl
end
end Own
set_option Elab.async false
set_option linter.all false
set_option maxRecDepth 100000
set_option maxHeartbeats 2000000
/-! a dict of mixed keys (MDic) walked: for, comprehensions, list(d) -/
namespace Own
open PySem PySem.Spec PyProof.Rows L2 PySem.Calls
section
variable {X : Cx} {pins : List (Addr × Obj)} {σ : L2.St} {H : Hp} {s : Shared} {d : Addr} {o : Obj}
/-- what a locked one is in truth -/
theorem mx_facts {h : Heap} {xs : List (MK × V × V)} (z : ObjOk X.prog X.w H h d (MxO X.prog X.w d xs)) : (d == sysModules) = false ∧ xs.length ≤ sizeLine ∧ ∃ (vs : List (MK × Value × Value)) (ob : Obj) (es : Array DictEntry) (ep : Nat), Paired MR xs vs ∧ h.get? d = some ob ∧ ob.ExactDict ∧ ob.data = .dict es ep ∧ es.toList = vs.map (mEnt X.prog X.w) := by
  obtain ⟨hl, hs, _, vs, ob, es, ep, hp, ho, hc, hd, he⟩ := z.1
  exact ⟨hs, hl, vs, ob, es, ep, hp, ho, hc, hd, he⟩
theorem mx_size {xs : List (MK × V × V)} {vs : List (MK × Value × Value)} {es : Array DictEntry} (hp : Paired MR xs vs) (he : es.toList = vs.map (mEnt X.prog X.w)) : es.size = xs.length := by
  rw [ent_size he, hp.length]
theorem mx_entry {xs : List (MK × V × V)} {vs : List (MK × Value × Value)} {es : Array DictEntry} (hp : Paired MR xs vs) (he : es.toList = vs.map (mEnt X.prog X.w)) {i : Nat} {x : MK × V × V} (hx : xs[i]? = some x) : ∃ en : DictEntry, es[i]? = some en ∧ RelV x.2.1 en.key ∧ RelV x.2.2 en.val := by
  obtain ⟨v, hv, r⟩ := mr_at' hp hx
  exact ⟨mEnt X.prog X.w v, by rw [ent_at he, hv]; rfl, r.2.1, r.2.2⟩
theorem frzM {xs : List (MK × V × V)} (I : L2.Inv X pins σ H s) (h : H d = some (.frz o (MxO X.prog X.w d xs))) :
    (d == sysModules) = false ∧ s.heap.get? d = some o ∧ o.ExactDict ∧ ∃ (es : Array DictEntry) (ep : Nat), o.data = .dict es ep ∧ es.size = xs.length ∧ ∀ (i : Nat) (x : MK × V × V), xs[i]? = some x → ∃ en : DictEntry, es[i]? = some en ∧ RelV x.2.1 en.key := by
  obtain ⟨hd, z⟩ := I.hok d _ h
  obtain ⟨hs, _, vs, ob, es, ep, hp, ho, hc, hdt, he⟩ := mx_facts z
  rw [hd] at ho
  cases ho
  exact ⟨hs, hd, hc, es, ep, hdt, mx_size hp he, fun i x hx => by obtain ⟨en, h1, h2, _⟩ := mx_entry hp he hx; exact ⟨en, h1, h2⟩⟩
/-- its keys, one by one, while it is locked -/
def Itm (P : Program) (w : World) (d : Addr) (o : Obj) (xs : List (MK × V × V)) : It :=
  ⟨fun i H => H d = some (.frz o (MxO P w d xs)) ∧ i < xs.length, fun i H y H' => H' = H ∧ ∃ x, xs[i]? = some x ∧ y = x.2.1, fun i H => H d = some (.frz o (MxO P w d xs)) ∧ xs.length ≤ i⟩
theorem walk_mx {P : Program} {w : World} {xs : List (MK × V × V)} : Walk (Itm P w d o xs) xs.length (fun H => H d = some (.frz o (MxO P w d xs))) (fun i H y H' => H' = H ∧ ∃ x, xs[i]? = some x ∧ y = x.2.1) :=
  ⟨fun _ _ hi q => ⟨q, hi⟩, fun _ q => ⟨q, Nat.le_refl _⟩, fun _ _ _ _ _ _ y => y⟩
theorem turn_mx {P : Program} {w : World} {K : PySem.W.Frag} {tg : Expr} {es : Array DictEntry} {ep : Nat} {xs : List (MK × V × V)} (it : Addr) (hod : o.data = .dict es ep) : Turn P w K tg (Itm P w d o xs) [it] it (fun i h => h.IsKeyIter it d i xs.length ep) where
  mem := List.mem_singleton.mpr rfl
  obj := fun i h st b hb => by
    obtain rfl := List.mem_singleton.mp hb
    obtain ⟨oi, e, c, dd⟩ := st
    exact ⟨oi, e, fun v z => by rw [dd] at z; cases z⟩
  keep := fun i h h' st k => st.at fun oi e => k it (List.mem_singleton.mpr rfl) oi e
  item := by
    intro X hP hw hK hc i pins s σ H E I hf st hg
    subst hP hw hK
    obtain ⟨hd, hi⟩ := hg
    obtain ⟨f0, f1, f2, f3, f4, f5⟩ := hf it (List.mem_singleton.mpr rfl)
    obtain ⟨hs, hgd, hx, es2, ep2, hdt, hsz, ent⟩ := frzM I hd
    obtain ⟨rfl, rfl⟩ := dict_ep hod hdt
    obtain ⟨en, hen, hkey⟩ := ent i xs[i] (List.getElem?_eq_getElem hi)
    refine next_key_item st hgd hdt hsz hen fun h2 st2 sb => ?_
    have I1 : L2.Inv X pins σ H { s with heap := h2 } := I.turned (t' := s.toks) (fun b ob hb e => (sb.2 b hb).trans e) f0 f1 f3 f4 f5
    obtain ⟨oi, e, c, dd⟩ := id st2
    exact ⟨en.key, rfl, go_of (s := { s with heap := h2 }) e c dd (by decide) ⟨xs[i].2.1, H, I1, hkey, ⟨rfl, xs[i], List.getElem?_eq_getElem hi, rfl⟩, st2, fun b hb => (hf b hb).1⟩⟩
  done := by
    intro X hP hw hK hc i pins s σ H E I hf st hg
    subst hP hw hK
    obtain ⟨hd, hi⟩ := hg
    obtain ⟨f0, f1, f2, f3, f4, f5⟩ := hf it (List.mem_singleton.mpr rfl)
    obtain ⟨hs, hgd, hx, es2, ep2, hdt, hsz, _⟩ := frzM I hd
    obtain ⟨rfl, rfl⟩ := dict_ep hod hdt
    exact next_key_end (I.ok.hd hc) st hgd hdt hsz hi fun h2 eb => ⟨rfl, I.turned (t' := s.toks) (fun b ob hb e => eb b ob hb e) f0 f1 f3 f4 f5⟩
  self := fun A i s Q E st h => by
    refine wpAny_pyIter_slot st.typeIs PySem.F.slot_dict_keyiterator_iter (wpAny_call_entry PySem.F.slot_dict_keyiterator_iter st.typeIs PySem.F.entry_dict_keyiterator_iter ?_ (PySem.F.args_dict_keyiterator_iter_1 _))
    show wpAny _ _ (ret (.ref it)) _ _ s
    exact wpAny_pure ⟨_, rfl, "dict_keyiterator", _, st.typeIs, PySem.F.slot_dict_keyiterator_next.lookup, h⟩
/-- the iterable is such a dict, locked -/
def iMx (P : Program) (w : World) (td : TE) : TI := fun σ H R => td σ H fun x H1 => ∃ d o xs, x = .ref d ∧ H1 d = some (.frz o (MxO P w d xs)) ∧ R (Itm P w d o xs) H1
theorem pi_mx {P : Program} {w : World} (hP : X.prog = P) (hw : X.w = w) {tg e : Expr} {td : TE} (he : PE X e td) : PI X tg e (iMx P w td) := by
  subst hP hw
  refine ⟨fun pins s σ H R I h => ?_⟩
  refine thn (he.run pins s σ H _ I h) fun u s1 ⟨x, H1, I1, rx, d, o, xs, ex, hd, q⟩ => ?_
  subst ex
  obtain rfl : u = Value.ref d := rx
  obtain ⟨hs, hgd, hx, es, ep, hdt, hsz, _⟩ := frzM I1 hd
  refine iter_keys hs hgd hx hdt (pi_one (tk := s1.toks) I1 _ (turn_mx _ hdt) ⟨_, Heap.get?_push_size _ rfl, rfl, ?_⟩ q)
  rw [hsz] <;> rfl
theorem vals_pt : ∀ {ys : List V} {us : List Value}, us.length = ys.length → (∀ (j : Nat) (u : Value), us[j]? = some u → ∃ y, ys[j]? = some y ∧ RelV y u) → Vals ys us
  | [], [], _, _ => .nil
  | [], _ :: _, l, _ => by simp at l
  | _ :: _, [], l, _ => by simp at l
  | y :: ys, u :: us, l, h => by
    obtain ⟨y2, e, r⟩ := h 0 u rfl
    cases e
    exact .cons r (vals_pt (by simpa using l) fun j v e => h (j + 1) v e)
/-- list(d): its keys -/
theorem call_listM (hc : X.calm = true) : CallR X (.type "list") (fun zs H Q => ∃ (a : Addr) (xs : List (MK × V × V)), zs = [.ref a] ∧ H a = some (MxO X.prog X.w a xs) ∧ ∀ p, H p = none → Q (.ref p) (upd H p (.lst (xs.map fun x => x.2.1)))) := by
  intro pins s σ H zs us Q I r q
  obtain ⟨a, xs, ex, ha, q⟩ := q
  subst ex
  obtain ⟨u, eu, rx⟩ := vals1 r
  subst eu
  cases rx
  obtain ⟨hs, hl, vs, ob, es, ep, hp, ho, hx, hdt, he⟩ := mx_facts (I.hok a _ ha)
  refine PySem.W.kdl_call (kdl_raw hs hx hdt) (I.ok.hd hc) ho (by rw [mx_size hp he]; exact hl) fun h2 tk acc c2 kp e2 it => ?_
  have hz := mx_size hp he
  have hv : Vals (xs.map fun x => x.2.1) acc.toList := vals_pt (by rw [Array.length_toList, List.length_map, ← hz]; exact it.1) fun j u e => by
    obtain ⟨en, h1, h2⟩ := it.2 j u (by rw [← Array.getElem?_toList]; exact e)
    have lt : j < xs.length := by rw [← hz]; exact (Array.getElem?_eq_some_iff.mp h1).1
    obtain ⟨en2, h3, h4, _⟩ := mx_entry hp he (List.getElem?_eq_getElem lt)
    rw [h1] at h3
    cases h3
    exact ⟨xs[j].2.1, by rw [List.getElem?_map, List.getElem?_eq_getElem lt]; rfl, by rw [h2]; exact h4⟩
  refine ⟨.ref s.heap.objs.size, upd H s.heap.objs.size (.lst (xs.map fun x => x.2.1)), I.laid (t' := tk) kp (Nat.le_refl _) ⟨by rw [List.length_map]; exact hl, acc.toList, c2, hv, ?_⟩, rfl, q _ (I.hok.fresh (Nat.le_refl _))⟩
  rw [Array.toArray_toList]; exact e2
end
end Own
set_option Elab.async false
set_option linter.all false
set_option maxRecDepth 100000
set_option maxHeartbeats 2000000
/-! a dict of mixed keys: made of a list of pairs, read while it is locked, its length -/
namespace Own
open PySem PySem.Spec PyProof.Rows L2
section
variable {P : Program} {w : World} {A : Around} {E : Value → Shared → Prop}
/-- all tuples stay -/
def TupKept (h h' : Heap) : Prop := ∀ b o, h.get? b = some o → o.cls = .type "tuple" → h'.get? b = some o
theorem mIs_move {h h' : Heap} (t : TupKept h h') {k : MK} {v : Value} (a : mIs P w h k v) : mIs P w h' k v := by
  rcases k with x | (_ | x) | ks
  · exact a
  · exact a
  · exact a
  · obtain ⟨b, rfl, o, its, n, h1, h2, h3, h4⟩ := a
    exact ⟨b, rfl, o, its, n, t _ _ h1 h2, h2, h3, h4⟩
theorem kept_but {h h' : Heap} {d : Addr} {od : Obj} {c : String} (s : ∀ b o, b ≠ d → h.get? b = some o → h'.get? b = some o) (e : h.get? d = some od) (ec : od.cls = .type c) (n : c ≠ "tuple") : TupKept h h' := fun b o e1 e2 =>
  s b o (fun z => by rw [z, e] at e1; cases e1; rw [ec] at e2; exact n (Value.type.inj e2)) e1
theorem kept_tup {h h' : Heap} {b : Addr} {its : Array Value} (t : TupKept h h') (z : IsTup h b its) : IsTup h' b its := by
  obtain ⟨o, h1, h2, h3⟩ := z
  exact ⟨o, t _ _ h1 h2, h2, h3⟩
theorem md_move {h h' : Heap} {d : Addr} {xs : List (MK × Value × Value)} (m : MD P w h d xs) (t : TupKept h h') (k : ∀ o, h.get? d = some o → h'.get? d = some o) : MD P w h' d xs := by
  obtain ⟨o, es, ep, h1, h2⟩ := m.ex
  exact ⟨⟨o, es, ep, k _ h1, h2⟩, fun y hy => mIs_move t (m.is y hy), m.nd⟩
theorem mx_fill {R : Result → Shared → Prop} {S I l : Addr} {its : Array Value} {res : Value} (no : A.handled = none) (room : A.units + 1 < cLine) (d1 : l ≠ I) (d2 : S ≠ I) (d3 : S ≠ l) :
    ∀ (rest : List (MK × Value × Value)) (i : Nat) (acc : List (MK × Value × Value)) (ix : Int) (t : Tok) (s : Shared), its.size = i + rest.length → acc.length + rest.length ≤ sizeLine → ((acc ++ rest).map (·.1)).Nodup →
      (∀ (j : Nat) (q : MK × Value × Value), rest[j]? = some q → ∃ b : Addr, its[i + j]? = some (.ref b) ∧ IsTup s.heap b #[q.2.1, q.2.2] ∧ mIs P w s.heap q.1 q.2.1) →
      s.heap.IsListIter I l i → s.heap.IsList l its → MD P w s.heap S acc →
      (∀ h' tk, MD P w h' S (acc ++ rest) → (∀ b o, b ≠ S → b ≠ I → s.heap.get? b = some o → h'.get? b = some o) → R (.ok (.ret res)) { s with heap := h', toks := tk }) →
      codeAny (model P w) A (.builtin "dict.update.loop" ⟨[.ref S, .ref I, .int ix t, res], []⟩) R s
  | [], i, acc, ix, t, s, sz, ln, nd, at_, it, li, md, k => by
    refine codeAny_builtin ud_entry ?_
    rw [Around.under_plainId ud_plain _]
    show wpAny _ A.in1 (pyNext (.ref I) >>= _) _ _ s
    refine wpAny_bind (wpAny_pyNext_list_end (A := A.in1) no it li (Array.getElem?_eq_none (by rw [sz]; exact Nat.le_refl _)) fun h1 sb => ?_)
    show wpAny _ A.in1 (Builtin.Dict.addKeywords S [] >>= _) _ _ _
    obtain ⟨oi, e1, e2, _⟩ := id it
    have tk := kept_but (fun b o n e => sb b o n e) e1 e2 (by decide)
    refine wpAny_bind (wpAny_pure (wpAny_pure (k h1 s.toks ?_ fun b o _ n e => sb b o n e)))
    rw [List.append_nil]
    exact md_move md tk fun o e => sb _ o d2 e
  | q :: rest, i, acc, ix, t, s, sz, ln, nd, at_, it, li, md, k => by
    obtain ⟨b, eb, tup, key⟩ := at_ 0 q rfl
    rw [List.length_cons] at sz ln
    refine codeAny_builtin ud_entry ?_
    rw [Around.under_plainId ud_plain _]
    show wpAny _ A.in1 (pyNext (.ref I) >>= _) _ _ s
    obtain ⟨oi, e1, e2, _⟩ := id it
    refine wpAny_bind (wpAny_pyNext_list_item (x := .ref b) it li (by simpa using eb) fun h1 it1 sb => ?_)
    have kb : ∀ c o, c ≠ I → s.heap.get? c = some o → h1.get? c = some o := fun c o n e => sb.extBut c o n e
    have tk1 := kept_but kb e1 e2 (by decide)
    have li1 : h1.IsList l its := li.at fun o e => kb _ o d1 e
    have md1 := md_move md tk1 fun o e => kb _ o d2 e
    obtain ⟨o, ho, hc, n, hd⟩ := id (kept_tup tk1 tup)
    obtain ⟨od, es, ep, g1, g2, g3⟩ := id md1.ex
    show wpAny _ A.in1 (holding [Value.ref b] _ >>= _) _ _ _
    refine wpAny_bind (wpAny_holding (wpAny_bind (wpAny_tryCatch ?_)))
    unfold Builtin.Dict.pairItems
    refine wpAny_bind (wpAny_typeOf (T := "tuple") ⟨o, ho, hc⟩ ?_)
    rw [if_pos (by first | decide | rfl | simp)]
    refine wpAny_bind (wpAny_seqItems ho hd (wpAny_pure ?_))
    show wpAny _ A.in1 (holding [q.2.1, q.2.2] (dictSet S q.2.1 q.2.2)) _ _ _
    refine wpAny_holding (m_set (s := { s with heap := h1 }) room (mIs_move tk1 key) md1 (by omega) (fun fresh h2 md2 sb2 => ?_) fun j p hj => ?_)
    · have kb2 : ∀ c o, c ≠ S → h1.get? c = some o → h2.get? c = some o := fun c o n e => sb2.extBut c o n e
      have tk2 := kept_but kb2 g1 g2.1 (by decide)
      have eqr : acc ++ [(q.1, q.2.1, q.2.2)] ++ rest = acc ++ q :: rest := by rw [List.append_assoc]; rfl
      refine wpAny_pure ⟨plainId_quiet ud_plain _, mx_fill (its := its) no room d1 d2 d3 rest (i + 1) (acc ++ [(q.1, q.2.1, q.2.2)]) (ix + 1) 0 _ (show its.size = i + 1 + rest.length by omega) ?_ (by rw [eqr]; exact nd) (fun j r e => ?_) ?_ ?_ md2 fun h' tk z kk => ?_⟩
      · rw [List.length_append, List.length_singleton]; omega
      · obtain ⟨c, f1, f2, f3⟩ := at_ (j + 1) r (by simpa using e)
        exact ⟨c, by rw [show i + 1 + j = i + (j + 1) by omega]; exact f1, kept_tup tk2 (kept_tup tk1 f2), mIs_move tk2 (mIs_move tk1 f3)⟩
      · exact it1.at fun o e => kb2 I o (Ne.symm d2) e
      · exact li1.at fun o e => kb2 l o (Ne.symm d3) e
      · exact k h' tk (by rw [← eqr]; exact z) fun c oc n1 n2 e => kk c oc n1 n2 (kb2 c oc n1 (kb c oc n2 e))
    · exfalso
      rw [List.map_append, List.nodup_append] at nd
      exact nd.2.2 q.1 (List.mem_map.mpr ⟨_, List.mem_of_getElem? hj, rfl⟩) q.1 (List.mem_map.mpr ⟨q, List.mem_cons_self .., rfl⟩) rfl
/-- dict(l) of pairs with unlike keys -/
theorem mx_pairs {s : Shared} {l : Addr} {ol : Obj} {its : Array Value} {n : Nat} {prs : List (MK × Value × Value)} {Q : Value → Shared → Prop} (no : A.handled = none) (room : A.units + 2 < cLine) (gl : s.heap.get? l = some ol) (lc : ol.cls = .type "list") (ld : ol.dict = none)
    (dat : ol.data = .seq its n) (sz : its.size = prs.length) (ln : prs.length ≤ sizeLine) (nd : (prs.map (·.1)).Nodup)
    (at_ : ∀ (j : Nat) (q : MK × Value × Value), prs[j]? = some q → ∃ b : Addr, its[j]? = some (.ref b) ∧ IsTup s.heap b #[q.2.1, q.2.2] ∧ mIs P w s.heap q.1 q.2.1)
    (h : ∀ h' tk, MD P w h' s.heap.objs.size prs → (∀ b o, s.heap.get? b = some o → h'.get? b = some o) → Q (.ref s.heap.objs.size) { s with heap := h', toks := tk }) :
    wpAny (model P w) A (call (.type "dict") [.ref l]) Q E s := by
  refine callType_codes (Q₁ := fun ob sx => ob = .ref s.heap.objs.size ∧ sx = { s with heap := s.heap.push { cls := .type "dict", data := .dict #[] } }) PySem.F.kt_called_dict (PySem.F.kt_typeCall_dict_1 _) PySem.F.entry_dict_init (kt_code_dict_new _ ⟨rfl, rfl⟩) ?_
  rintro ob sx ⟨rfl, rfl⟩
  have k0 : ∀ b o, s.heap.get? b = some o → (s.heap.push { cls := .type "dict", data := .dict #[] }).get? b = some o := fun b o e => Heap.get?_push_of_some _ e
  have gS : (s.heap.push { cls := .type "dict", data := .dict #[] }).get? s.heap.objs.size = some { cls := .type "dict", data := .dict #[] } := Heap.get?_push_size _ rfl
  have mdS : MD P w (s.heap.push { cls := .type "dict", data := .dict #[] }) s.heap.objs.size [] := ⟨⟨_, #[], 0, gS, ⟨rfl, rfl, rfl⟩, rfl, rfl⟩, (fun _ m => nomatch m), List.Pairwise.nil⟩
  have tyS : Shared.TypeIs { s with heap := s.heap.push { cls := .type "dict", data := .dict #[] } } (.ref s.heap.objs.size) "dict" := ⟨_, gS, rfl⟩
  refine ⟨tyS, PySem.F.args_dict_init_2 _ _, ?_⟩
  unfold Builtin.«dict.__init__»
  refine wpAny_bind ?_
  unfold Builtin.Dict.selfAndRest
  refine wpAny_bind (wpAny_notOrdered_dict tyS ?_)
  show wpAny _ _ (pure (s.heap.objs.size, [Value.ref l])) _ _ _
  refine wpAny_pure ?_
  show wpAny _ _ (Builtin.Dict.updateFrom "dict.__init__" s.heap.objs.size (.ref l) [] .none) _ _ _
  unfold Builtin.Dict.updateFrom
  refine wpAny_bind (wpAny_typeOf (T := "list") ⟨ol, k0 _ _ gl, lc⟩ ?_)
  rw [if_pos (by first | decide | rfl | simp)]
  refine wpAny_bind (miss_list (k0 _ _ gl) lc dat ld no fun h1 tk1 kk1 => ?_)
  rw [if_pos (show (none : Option Value).isNone = true from rfl)]
  refine wpAny_bind (wpAny_rule ?_)
  have li1 : h1.IsList l its := ⟨ol, kk1 _ _ (k0 _ _ gl), lc, n, dat⟩
  have lt1 : s.heap.objs.size < h1.objs.size := Heap.lt_size (kk1 _ _ gS)
  refine wpAny_bind (wpAny_pyIter_list li1 ?_)
  have k2 : ∀ b o, h1.get? b = some o → (h1.push { cls := .type "list_iterator", data := .fields #[.ref l, .int 0 0] }).get? b = some o := fun b o e => Heap.get?_push_of_some _ e
  have lt2 : l < s.heap.objs.size := Heap.lt_size gl
  have all : ∀ b o, s.heap.get? b = some o → (h1.push { cls := .type "list_iterator", data := .fields #[.ref l, .int 0 0] }).get? b = some o := fun b o e => k2 _ _ (kk1 _ _ (k0 _ _ e))
  have walk := mx_fill (P := P) (w := w) (A := A.in1) (R := wants (fun r sy => r = .none ∧ Q (.ref s.heap.objs.size) sy) E) (S := s.heap.objs.size) (I := h1.objs.size) (l := l) (its := its) (res := Value.none) no (by show A.units + 1 + 1 < cLine; omega)
    (Nat.ne_of_lt (Nat.lt_trans lt2 lt1)) (Nat.ne_of_lt lt1) (Nat.ne_of_gt lt2) prs 0 [] 0 0
    { s with heap := h1.push { cls := .type "list_iterator", data := .fields #[.ref l, .int 0 0] }, toks := tk1 } (by rw [sz, Nat.zero_add]) (by rw [List.length_nil, Nat.zero_add]; exact ln) nd
    (fun j q e => by
      obtain ⟨b, f1, f2, f3⟩ := at_ j q e
      exact ⟨b, by rw [Nat.zero_add]; exact f1, kept_tup (fun c o e _ => all _ _ e) f2, mIs_move (fun c o e _ => all _ _ e) f3⟩)
    ⟨_, Heap.get?_push_size _ rfl, rfl, rfl⟩ (li1.at fun o e => k2 _ _ e) (md_move mdS (fun c o e _ => k2 _ _ (kk1 _ _ e)) fun o e => k2 _ _ (kk1 _ _ e))
    (fun h' tk z kk => ⟨rfl, h h' tk z fun b o e => kk b o (Nat.ne_of_lt (Heap.lt_size e)) (Nat.ne_of_lt (Nat.lt_trans (Heap.lt_size e) lt1)) (all _ _ e)⟩)
  first
    | exact wpAny_pure ⟨plainId_quiet ud_plain _, walk⟩
    | exact wpAny_bind (wpAny_pure (wpAny_pure ⟨plainId_quiet ud_plain _, walk⟩))
/-- its length -/
theorem mx_len {s : Shared} {d : Addr} {xs : List (MK × Value × Value)} {Q : Value → Shared → Prop} (hd : (d == sysModules) = false) (hm : MD P w s.heap d xs) (fit : (xs.length : Int) < 2 ^ 63)
    (h : Q (.int xs.length (s.toks + 1)) { s with toks := s.toks + 1 + 1 }) : wpAny (model P w) A (call (.builtin "len") [.ref d]) Q E s := by
  refine Calls.call_function_entry kind_len plain_len entry_len (args_len1 _) ?_
  unfold Builtin.«len»
  refine wpAny_bind (m := oneArg "len" _) (wpAny_pure ?_)
  obtain ⟨o, es, ep, ho, hc, hdat, he⟩ := hm.ex
  refine wpAny_bind (m := callSpecial? (.ref d) (Str.ofString "__len__")) (wpAny_callSpecial?_slot (name := Str.ofString "__len__") hm.typeIs PySem.F.slot_dict_len
    (wpAny_call_entry PySem.F.slot_dict_len hm.typeIs PySem.F.entry_dict_len ?_ (PySem.F.args_dict_len_1 _)))
  show wpAny _ _ (dictSize d >>= _) _ _ s
  unfold dictSize
  refine wpAny_bind (wpAny_bind (wpAny_dictEntries ho hdat (wpAny_pure ?_)))
  show wpAny _ _ (Builtin.Dict.pendingCount d >>= _) _ _ s
  refine wpAny_bind (wpAny_pendingCount_other hd (wpAny_ret_mkInt ?_))
  rw [Nat.add_zero, ent_size he]
  show wpAny _ _ _ _ _ { s with toks := s.toks + 1 }
  refine wpAny_bind (wpAny_holding (wpAny_pure ?_))
  refine wpAny_bind (wpAny_letGo ?_)
  show wpAny _ _ (if ((xs.length : Nat) : Int) < 0 then _ else _) _ _ _
  rw [if_neg (by omega)]
  show wpAny _ _ (if ((xs.length : Nat) : Int) ≥ 2 ^ 63 then _ else _) _ _ _
  rw [if_neg (by omega)]
  exact wpAny_bind (wpAny_mkInt (wpAny_pure ⟨_, rfl, h⟩))
end
section
variable {X : Cx} {pins : List (Addr × Obj)} {σ : L2.St} {H : Hp} {s : Shared}
theorem mx_real (I : L2.Inv X pins σ H s) : ∀ {ps : List Addr} {xs : List (MK × V × V)}, Paired (fun p (x : MK × V × V) => SqT X.K H p [x.2.1, x.2.2] ∧ KeyL X.K H x.2.1 x.1) ps xs →
    ∃ prs : List (MK × Value × Value), Paired MR xs prs ∧ prs.length = ps.length ∧ ∀ (j : Nat) (q : MK × Value × Value), prs[j]? = some q → ∃ b : Addr, ps[j]? = some b ∧ IsTup s.heap b #[q.2.1, q.2.2] ∧ mIs X.prog X.w s.heap q.1 q.2.1
  | _, _, .nil => ⟨[], .nil, rfl, fun j q e => by simp at e⟩
  | _, _, .cons (a := p) (b := x) ⟨hq, hk⟩ t => by
    obtain ⟨prs, r, hl, hp⟩ := mx_real I t
    obtain ⟨us, rv, ht, _⟩ := I.tuple hq
    obtain ⟨u, y, ei, ru, ry⟩ := vals2 rv
    subst ei
    refine ⟨(x.1, u, y) :: prs, .cons ⟨rfl, ru, ry⟩ r, by rw [List.length_cons, List.length_cons, hl], fun j q e => ?_⟩
    cases j with
    | zero =>
      cases e
      exact ⟨p, rfl, ht, key_real I hk ru⟩
    | succ j =>
      obtain ⟨b, f1, f2⟩ := hp j q (by simpa using e)
      exact ⟨b, by simpa using f1, f2⟩
/-- dict(xs) of a list of pairs whose keys are of any sort -/
theorem call_dictM (hcalm : X.calm = true) (hu : X.A.units + 2 < cLine) : CallR X (.type "dict") (fun zs H Q => ∃ (a : Addr) (ps : List Addr) (xs : List (MK × V × V)), zs = [.ref a] ∧ SqL X.K H a (ps.map V.ref) ∧ Paired (fun p (x : MK × V × V) => SqT X.K H p [x.2.1, x.2.2] ∧ KeyL X.K H x.2.1 x.1) ps xs ∧ (xs.map (·.1)).Nodup ∧
    ∀ p, H p = none → Q (.ref p) (upd H p (MxO X.prog X.w p xs))) := by
  intro pins s σ H zs us Q I r q
  obtain ⟨a, ps, xs, ex, hq, hp, nd, q⟩ := q
  subst ex
  obtain ⟨u, eu, rx⟩ := vals1 r
  subst eu
  cases rx
  obtain ⟨its, rv, pl, hz⟩ := I.list hq
  have ei := refs_at rv
  subst ei
  rw [List.length_map] at hz
  obtain ⟨prs, rel, hl, hpr⟩ := mx_real I hp
  obtain ⟨o, n, ho, hc, hd, hdat⟩ := pl
  refine mx_pairs (prs := prs) (I.ok.hd hcalm) hu ho hc hd hdat (by simp [hl]) (by rw [hl]; exact hz) (by rw [mr_keys rel]; exact nd) (fun j q' e => ?_) fun h' tk md k => ?_
  · obtain ⟨b, e1, e2⟩ := hpr j q' e
    exact ⟨b, by simp [e1], e2⟩
  · have hm : (s.heap.objs.size == sysModules) = false := beq_eq_false_iff_ne.mpr (Nat.ne_of_gt I.big)
    have xl : xs.length = ps.length := rel.length.trans hl
    exact ⟨.ref s.heap.objs.size, upd H s.heap.objs.size (MxO X.prog X.w s.heap.objs.size xs), I.laid (t' := tk) k (Nat.le_refl _) (mx_ok (by rw [xl]; exact hz) hm nd rel md.ex), rfl, q _ (I.hok.fresh (Nat.le_refl _))⟩
end
/-! ### read, be it locked or not -/
structure MRd (P : Program) (w : World) (H : Hp) (d : Addr) (m : List (MK × V)) : Prop where
  ex : ∃ xs, (H d = some (MxO P w d xs) ∨ ∃ o, H d = some (.frz o (MxO P w d xs))) ∧ (∀ x ∈ xs, KeyAt H x) ∧ m = xs.map fun x => (x.1, x.2.2)
theorem MDic.rd {P : Program} {w : World} {H : Hp} {d : Addr} {m : List (MK × V)} (h : MDic P w H d m) : MRd P w H d m := by
  obtain ⟨xs, h1, h2⟩ := h.ex
  exact ⟨xs, .inl h1, h2⟩
theorem MRd.up {P : Program} {w : World} {H H' : Hp} {d : Addr} {m : List (MK × V)} (h : MRd P w H d m) (s : Same H H') : MRd P w H' d m := by
  obtain ⟨xs, h1, h2, h3⟩ := h.ex
  exact ⟨xs, h1.imp (s _ _) fun ⟨o, e⟩ => ⟨o, s _ _ e⟩, fun x hx => (h2 x hx).up fun a ys e => s _ _ e, h3⟩
section
variable {X : Cx} {pins : List (Addr × Obj)} {σ : L2.St} {H : Hp} {s : Shared} {d : Addr} {m : List (MK × V)} {k : MK} {y : V} {u : Value} {A : Around} {E : Value → Shared → Prop}
theorem mrd_of (I : L2.Inv X pins σ H s) (g : MRd X.prog X.w H d m) : ∃ (xs : List (MK × V × V)) (vs : List (MK × Value × Value)), m = xs.map (fun x => (x.1, x.2.2)) ∧ (xs.map (·.1)).Nodup ∧ xs.length ≤ sizeLine ∧ (d == sysModules) = false ∧ Paired MR xs vs ∧ MD X.prog X.w s.heap d vs := by
  obtain ⟨xs, h1, h2, h3⟩ := g.ex
  have z : ObjOk X.prog X.w H s.heap d (MxO X.prog X.w d xs) := by
    rcases h1 with h1 | ⟨o, h1⟩
    · exact I.hok d _ h1
    · exact (I.hok d _ h1).2
  obtain ⟨hl, hs, hn, vs, o, es, ep, hp, ho, hc, hd, he⟩ := z.1
  refine ⟨xs, vs, h3, hn, hl, hs, hp, ⟨o, es, ep, ho, hc, hd, he⟩, fun v hv => ?_, by rw [mr_keys hp]; exact hn⟩
  obtain ⟨i, hi, e⟩ := List.getElem_of_mem hv
  obtain ⟨x, hx, r⟩ := mr_at hp (by rw [List.getElem?_eq_getElem hi, e])
  exact keyAt_real I (h2 x (List.mem_of_getElem? hx)) r
theorem mrd_none {xs : List (MK × V × V)} {vs : List (MK × Value × Value)} (hp : Paired MR xs vs) (z : ∀ (j : Nat) (p : Value × Value), vs[j]? ≠ some (k, p)) : valV (xs.map fun x => (x.1, x.2.2)) k = none := val_none fun j p e => by
  obtain ⟨v2, e2, r⟩ := mr_at' hp e
  obtain ⟨k2, q⟩ := v2
  exact z j q (by rw [e2, show k2 = k from r.1.symm])
theorem mrd_some {xs : List (MK × V × V)} {vs : List (MK × Value × Value)} {j : Nat} {p : Value × Value} (hn : (xs.map (·.1)).Nodup) (hp : Paired MR xs vs) (hj : vs[j]? = some (k, p)) : ∃ v, valV (xs.map fun x => (x.1, x.2.2)) k = some v ∧ RelV v p.2 := by
  obtain ⟨x, hx, r⟩ := mr_at hp hj
  have e := val_of hn hx
  rw [show x.1 = k from r.1] at e
  exact ⟨_, e, r.2.2⟩
theorem mrd_getItem {Q : Value → Shared → Prop} {v : V} (hu : A.units + 1 < cLine) (I : L2.Inv X pins σ H s) (g : MRd X.prog X.w H d m) (hk : KeyL X.K H y k) (ry : RelV y u) (hv : valV m k = some v) (h : ∀ w' s', L2.Inv X pins σ H s' → RelV v w' → Q w' s') :
    wpAny (model X.prog X.w) A (getItem (.ref d) u) Q E s := by
  obtain ⟨xs, vs, rfl, hn, _, _, hp, hm⟩ := mrd_of I g
  unfold getItem
  try with_reducible refine wpAny_holding ?_
  refine wpAny_bind (wpAny_sequenceKey hm.typeIs (by decide) ?_)
  refine wpAny_bind (wpAny_callSpecial?_slot (name := Str.ofString "__getitem__") hm.typeIs PySem.F.slot_dict_getitem (wpAny_call_entry PySem.F.slot_dict_getitem hm.typeIs PySem.F.entry_dict_getitem ?_ (PySem.F.args_dict_getitem_2 _ _)))
  show wpAny _ _ (dictGet d u >>= _) _ _ s
  refine wpAny_bind (m_get (A := A.in1) hu (key_real I hk ry) hm (fun z => ?_) fun j p hj => ?_)
  · rw [mrd_none hp z] at hv
    cases hv
  · obtain ⟨v2, e, r⟩ := mrd_some hn hp hj
    rw [hv] at e
    cases e
    exact wpAny_pure ⟨p.2, rfl, wpAny_pure (h _ _ (I.tok _) r)⟩
theorem mrd_in {Q : Value → Shared → Prop} (hu : A.units + 1 < cLine) (I : L2.Inv X pins σ H s) (g : MRd X.prog X.w H d m) (hk : KeyL X.K H y k) (ry : RelV y u) (h : ∀ s', L2.Inv X pins σ H s' → Q (.bool (valV m k).isSome) s') :
    wpAny (model X.prog X.w) A (compareOp .In u (.ref d)) Q E s := by
  obtain ⟨xs, vs, rfl, hn, _, hsm, hp, hm⟩ := mrd_of I g
  show wpAny _ _ (do return .bool (← contains (.ref d) u)) Q E s
  refine wpAny_bind ?_
  unfold contains
  try with_reducible refine wpAny_holding ?_
  refine wpAny_bind (wpAny_specialOf hm.typeIs PySem.F.slot_dict_contains.lookup ?_)
  show wpAny _ _ (if (some (Value.builtin "dict.__contains__") == some Value.none) = true then _ else _) _ E s
  rw [if_neg (by rw [beq_builtin_none]; exact Bool.false_ne_true)]
  refine wpAny_bind (wpAny_callSpecialUnlessNone?_slot (name := Str.ofString "__contains__") hm.typeIs PySem.F.slot_dict_contains
    (wpAny_call_entry PySem.F.slot_dict_contains hm.typeIs PySem.F.entry_dict_contains ?_ (PySem.F.args_dict_contains_2 _ _)))
  show wpAny _ _ (dictGet d u >>= _) _ _ s
  refine wpAny_bind (m_get (A := A.in1) hu (key_real I hk ry) hm (fun z => ?_) fun j p hj => ?_)
  · rw [mrd_none hp z] at h
    show wpAny _ _ (Builtin.Dict.pendingKey? d u >>= _) _ _ _
    exact wpAny_bind (wpAny_pendingKey_other hsm (wpAny_pure ⟨_, rfl, wpAny_truthy_bool (wpAny_pure (h _ (I.tok _)))⟩))
  · obtain ⟨v2, e, r⟩ := mrd_some hn hp hj
    rw [e] at h
    show wpAny _ _ (ret (.bool true)) _ _ _
    exact wpAny_pure ⟨_, rfl, wpAny_truthy_bool (wpAny_pure (h _ (I.tok _)))⟩
end
def tRGet (P : Program) (w : World) (K : PySem.W.Frag) (td ty : TE) : TE := fun σ H Q => td σ H fun x H1 => ty σ H1 fun y H2 => ∃ d m k v, x = .ref d ∧ MRd P w H2 d m ∧ KeyL K H2 y k ∧ valV m k = some v ∧ Q v H2
def tRIn (P : Program) (w : World) (K : PySem.W.Frag) (ty td : TE) : TE := fun σ H Q => ty σ H fun y H1 => td σ H1 fun x H2 => ∃ d m k, x = .ref d ∧ MRd P w H2 d m ∧ KeyL K H2 y k ∧ Q (.bl (valV m k).isSome) H2
section
variable {X : Cx}
theorem pe_rget {P : Program} {w : World} {K : PySem.W.Frag} (hP : X.prog = P) (hw : X.w = w) (hK : X.K = K) {o i : Expr} {td ty : TE} {pos : Pos} (hu : X.A.units + 1 < cLine) (ho : PE X o td) (hi : PE X i ty) (hs : NoSl i) : PE X (.Subscript o i pos) (tRGet P w K td ty) := by
  subst hP hw hK
  refine ⟨fun pins s σ H Q I h => ?_⟩
  refine subD_of PySem.F.slot_dict_getitem.lookup hs (thn (ho.run pins s σ H _ I h) fun u s1 ⟨x, H1, I1, rx, q1⟩ => thn (hi.run pins s1 σ H1 _ I1 q1) fun iv s2 ⟨y, H2, I2, ry, d, m, k, v, ex, g, hk, hv, q2⟩ => ?_)
  subst ex
  obtain rfl : u = Value.ref d := rx
  obtain ⟨_, _, _, _, _, _, _, hm⟩ := mrd_of I2 g
  exact ⟨hm.typeIs, mrd_getItem hu I2 g hk ry hv fun w' s3 I3 rw' => ⟨v, H2, I3, rw', q2⟩⟩
theorem pc_rin {P : Program} {w : World} {K : PySem.W.Frag} (hP : X.prog = P) (hw : X.w = w) (hK : X.K = K) {o i : Expr} {td ty : TE} (hu : X.A.units + 1 < cLine) (hi : PE X i ty) (ho : PE X o td) : PC X .In i o (tRIn P w K ty td) := by
  subst hP hw hK
  refine ⟨fun pins s σ H Q I h => ?_⟩
  refine thn (hi.run pins s σ H _ I h) fun iv s1 ⟨y, H1, I1, ry, q1⟩ => thn (ho.run pins s1 σ H1 _ I1 q1) fun u s2 ⟨x, H2, I2, rx, d, m, k, ex, g, hk, q2⟩ => ?_
  subst ex
  obtain rfl : u = Value.ref d := rx
  exact mrd_in hu I2 g hk ry fun s3 I3 => ⟨.bl (valV m k).isSome, H2, I3, rfl, q2⟩
/-- its length -/
theorem call_lenM {P : Program} {w : World} (hP : X.prog = P) (hw : X.w = w) : CallR X (.builtin "len") (fun xs H Q => ∃ a m, xs = [V.ref a] ∧ MRd P w H a m ∧ Q (.int m.length) H) := by
  subst hP hw
  intro pins s σ H zs us Q I r q
  obtain ⟨a, m, ex, g, q⟩ := q
  subst ex
  obtain ⟨u, eu, rx⟩ := vals1 r
  subst eu
  cases rx
  obtain ⟨xs, vs, rfl, hn, hl, hsm, hp, hm⟩ := mrd_of I g
  have e : vs.length = xs.length := hp.length.symm
  refine mx_len hsm hm (by rw [e]; rw [sizeLine_eq] at hl; omega) ⟨.int (xs.map fun x => (x.1, x.2.2)).length, H, I.tok _, ⟨_, by rw [List.length_map, e]⟩, q⟩
/-! ### one of two rules -/
theorem pe_either {e : Expr} {t1 t2 : TE} (h1 : PE X e t1) (h2 : PE X e t2) : PE X e (fun σ H Q => t1 σ H Q ∨ t2 σ H Q) := ⟨fun pins s σ H Q I h => h.elim (h1.run pins s σ H Q I) (h2.run pins s σ H Q I)⟩
theorem cr_either {f : Value} {r1 r2 : List V → Hp → VK → Prop} (h1 : CallR X f r1) (h2 : CallR X f r2) : CallR X f (fun xs H Q => r1 xs H Q ∨ r2 xs H Q) := fun pins s σ H xs us Q I r h => h.elim (h1 pins s σ H xs us Q I r) (h2 pins s σ H xs us Q I r)
/-- d[y] = v as a target -/
def rSetM (P : Program) (w : World) (K : PySem.W.Frag) : TSet := fun o i v H Q => ∃ d m k, o = .ref d ∧ MDic P w H d m ∧ KeyL K H i k ∧ KeyAt H (k, i, v) ∧ m.length < sizeLine ∧ ∀ z, MDic P w (upd H d z) d (putK m k v) → Q (upd H d z)
theorem set_mx {P : Program} {w : World} {K : PySem.W.Frag} (hP : X.prog = P) (hw : X.w = w) (hK : X.K = K) (hu : X.A.units + 1 < cLine) : PSet X (rSetM P w K) := by
  subst hP hw hK
  intro pins s σ H o i v ov iv u Q I ro ri rv h
  obtain ⟨d, m, k, eo, g, hk, hka, hl, q⟩ := h
  subst eo
  obtain rfl : ov = Value.ref d := ro
  exact mx_setItem hu I g hk hka hl ri rv fun z s' g' I' => ⟨_, I', q z g'⟩
theorem un2h {n : Nat} {A : Around} (r : Room n A) : A.units + 2 < cLine := by have := r.un; omega
end
end Own
set_option Elab.async false
set_option linter.all false
set_option maxRecDepth 100000
set_option maxHeartbeats 4000000
namespace K5
open PySem L2
structure Ad where
  a_is_integer : Addr
  d_is_integer : FuncData
  a_is_list : Addr
  d_is_list : FuncData
  a_is_name : Addr
  d_is_name : FuncData
  a_alike : Addr
  d_alike : FuncData
  a_copied : Addr
  d_copied : FuncData
  a_BadRow___init__ : Addr
  d_BadRow___init__ : FuncData
  a_Round___init__ : Addr
  d_Round___init__ : FuncData
  a_Hanging___init__ : Addr
  d_Hanging___init__ : FuncData
  a_check_rows : Addr
  d_check_rows : FuncData
  a_is_hook : Addr
  d_is_hook : FuncData
  a_check_rounds : Addr
  d_check_rounds : FuncData
  a_round_from : Addr
  d_round_from : FuncData
  a_Book___init__ : Addr
  d_Book___init__ : FuncData
  a_check_entries : Addr
  d_check_entries : FuncData
  a_is_entry : Addr
  d_is_entry : FuncData
  a_is_wait : Addr
  d_is_wait : FuncData
  a__law_fresh : Addr
  d__law_fresh : FuncData
  a__law_take : Addr
  d__law_take : FuncData
  a__law_one : Addr
  d__law_one : FuncData
  a__law_mix : Addr
  d__law_mix : FuncData
  a__law_same : Addr
  d__law_same : FuncData
  a__law_names : Addr
  d__law_names : FuncData
  a__law_rising : Addr
  d__law_rising : FuncData
  a__law_hung : Addr
  d__law_hung : FuncData
  a__law_is_name : Addr
  d__law_is_name : FuncData
  a__law_due : Addr
  d__law_due : FuncData
  a__law_tried : Addr
  d__law_tried : FuncData
  a_law : Addr
  d_law : FuncData
  a_BadRow : Addr
  a_Round : Addr
  a_Hanging : Addr
  a_Book : Addr
structure Txt (K : PySem.W.Frag) (mg : Str → Option Value) (A : Ad) : Prop where
  f_is_integer : Fun K "is_integer" "is_integer" s_is_integer A.a_is_integer A.d_is_integer
  g_is_integer : mg "is_integer" = some (.ref A.a_is_integer)
  b_is_integer : Binds K A.d_is_integer P_is_integer []
  f_is_list : Fun K "is_list" "is_list" s_is_list A.a_is_list A.d_is_list
  g_is_list : mg "is_list" = some (.ref A.a_is_list)
  b_is_list : Binds K A.d_is_list P_is_list []
  f_is_name : Fun K "is_name" "is_name" s_is_name A.a_is_name A.d_is_name
  g_is_name : mg "is_name" = some (.ref A.a_is_name)
  b_is_name : Binds K A.d_is_name P_is_name []
  f_alike : Fun K "alike" "alike" s_alike A.a_alike A.d_alike
  g_alike : mg "alike" = some (.ref A.a_alike)
  b_alike : Binds K A.d_alike P_alike []
  f_copied : Fun K "copied" "copied" s_copied A.a_copied A.d_copied
  g_copied : mg "copied" = some (.ref A.a_copied)
  b_copied : Binds K A.d_copied P_copied []
  f_BadRow___init__ : Fun K "__init__" "BadRow.__init__" s_BadRow___init__ A.a_BadRow___init__ A.d_BadRow___init__
  b_BadRow___init__ : Binds K A.d_BadRow___init__ P_BadRow___init__ []
  f_Round___init__ : Fun K "__init__" "Round.__init__" s_Round___init__ A.a_Round___init__ A.d_Round___init__
  b_Round___init__ : Binds K A.d_Round___init__ P_Round___init__ []
  f_Hanging___init__ : Fun K "__init__" "Hanging.__init__" s_Hanging___init__ A.a_Hanging___init__ A.d_Hanging___init__
  b_Hanging___init__ : Binds K A.d_Hanging___init__ P_Hanging___init__ []
  f_check_rows : Fun K "check_rows" "check_rows" s_check_rows A.a_check_rows A.d_check_rows
  g_check_rows : mg "check_rows" = some (.ref A.a_check_rows)
  b_check_rows : Binds K A.d_check_rows P_check_rows []
  f_is_hook : Fun K "is_hook" "is_hook" s_is_hook A.a_is_hook A.d_is_hook
  g_is_hook : mg "is_hook" = some (.ref A.a_is_hook)
  b_is_hook : Binds K A.d_is_hook P_is_hook []
  f_check_rounds : Fun K "check_rounds" "check_rounds" s_check_rounds A.a_check_rounds A.d_check_rounds
  g_check_rounds : mg "check_rounds" = some (.ref A.a_check_rounds)
  b_check_rounds : Binds K A.d_check_rounds P_check_rounds []
  f_round_from : Fun K "round_from" "round_from" s_round_from A.a_round_from A.d_round_from
  g_round_from : mg "round_from" = some (.ref A.a_round_from)
  b_round_from : Binds K A.d_round_from P_round_from []
  f_Book___init__ : Fun K "__init__" "Book.__init__" s_Book___init__ A.a_Book___init__ A.d_Book___init__
  b_Book___init__ : Binds K A.d_Book___init__ P_Book___init__ []
  f_check_entries : Fun K "check_entries" "check_entries" s_check_entries A.a_check_entries A.d_check_entries
  g_check_entries : mg "check_entries" = some (.ref A.a_check_entries)
  b_check_entries : Binds K A.d_check_entries P_check_entries []
  f_is_entry : Fun K "is_entry" "is_entry" s_is_entry A.a_is_entry A.d_is_entry
  g_is_entry : mg "is_entry" = some (.ref A.a_is_entry)
  b_is_entry : Binds K A.d_is_entry P_is_entry []
  f_is_wait : Fun K "is_wait" "is_wait" s_is_wait A.a_is_wait A.d_is_wait
  g_is_wait : mg "is_wait" = some (.ref A.a_is_wait)
  b_is_wait : Binds K A.d_is_wait P_is_wait []
  f__law_fresh : Fun K "_law_fresh" "_law_fresh" s__law_fresh A.a__law_fresh A.d__law_fresh
  g__law_fresh : mg "_law_fresh" = some (.ref A.a__law_fresh)
  b__law_fresh : Binds K A.d__law_fresh P__law_fresh []
  f__law_take : Fun K "_law_take" "_law_take" s__law_take A.a__law_take A.d__law_take
  g__law_take : mg "_law_take" = some (.ref A.a__law_take)
  b__law_take : Binds K A.d__law_take P__law_take []
  f__law_one : Fun K "_law_one" "_law_one" s__law_one A.a__law_one A.d__law_one
  g__law_one : mg "_law_one" = some (.ref A.a__law_one)
  b__law_one : Binds K A.d__law_one P__law_one []
  f__law_mix : Fun K "_law_mix" "_law_mix" s__law_mix A.a__law_mix A.d__law_mix
  g__law_mix : mg "_law_mix" = some (.ref A.a__law_mix)
  b__law_mix : Binds K A.d__law_mix P__law_mix []
  f__law_same : Fun K "_law_same" "_law_same" s__law_same A.a__law_same A.d__law_same
  g__law_same : mg "_law_same" = some (.ref A.a__law_same)
  b__law_same : Binds K A.d__law_same P__law_same []
  f__law_names : Fun K "_law_names" "_law_names" s__law_names A.a__law_names A.d__law_names
  g__law_names : mg "_law_names" = some (.ref A.a__law_names)
  b__law_names : Binds K A.d__law_names P__law_names []
  f__law_rising : Fun K "_law_rising" "_law_rising" s__law_rising A.a__law_rising A.d__law_rising
  g__law_rising : mg "_law_rising" = some (.ref A.a__law_rising)
  b__law_rising : Binds K A.d__law_rising P__law_rising []
  f__law_hung : Fun K "_law_hung" "_law_hung" s__law_hung A.a__law_hung A.d__law_hung
  g__law_hung : mg "_law_hung" = some (.ref A.a__law_hung)
  b__law_hung : Binds K A.d__law_hung P__law_hung []
  f__law_is_name : Fun K "_law_is_name" "_law_is_name" s__law_is_name A.a__law_is_name A.d__law_is_name
  g__law_is_name : mg "_law_is_name" = some (.ref A.a__law_is_name)
  b__law_is_name : Binds K A.d__law_is_name P__law_is_name []
  f__law_due : Fun K "_law_due" "_law_due" s__law_due A.a__law_due A.d__law_due
  g__law_due : mg "_law_due" = some (.ref A.a__law_due)
  b__law_due : Binds K A.d__law_due P__law_due []
  f__law_tried : Fun K "_law_tried" "_law_tried" s__law_tried A.a__law_tried A.d__law_tried
  g__law_tried : mg "_law_tried" = some (.ref A.a__law_tried)
  b__law_tried : Binds K A.d__law_tried P__law_tried []
  f_law : Fun K "law" "law" s_law A.a_law A.d_law
  g_law : mg "law" = some (.ref A.a_law)
  b_law : Binds K A.d_law P_law []
  g_CLOCK : ∃ t, mg "CLOCK" = some (.str "clock" t)
  g_LETTERS : ∃ t, mg "LETTERS" = some (.str "abcdefghijklmnopqrstuvwxyz" t)
  g_LONGEST_NAME : ∃ t, mg "LONGEST_NAME" = some (.int 8 t)
  len : mg "len" = none
  abs : mg "abs" = none
  int : mg "int" = none
  list : mg "list" = none
  tuple : mg "tuple" = none
  bool : mg "bool" = none
  str : mg "str" = none
  dict : mg "dict" = none
  isinstance : mg "isinstance" = none
  all : mg "all" = none
  any : mg "any" = none
  zip : mg "zip" = none
  enumerate : mg "enumerate" = none
  range : mg "range" = none
  sorted : mg "sorted" = none
  cl : Cls K A.a_Hanging
  cl_B : Cls K A.a_Book
  eBr : PySem.W.exmOne K (.ref A.a_BadRow) (.ref A.a_BadRow) = some true
  eRB : PySem.W.exmOne K (.ref A.a_Round) (.ref A.a_BadRow) = some false
  eRo : PySem.W.exmOne K (.ref A.a_Round) (.ref A.a_Round) = some true
  g_BadRow : mg "BadRow" = some (.ref A.a_BadRow)
  g_Book : mg "Book" = some (.ref A.a_Book)
  g_Hanging : mg "Hanging" = some (.ref A.a_Hanging)
  g_Round : mg "Round" = some (.ref A.a_Round)
  iBr : PySem.W.findIn K (.ref A.a_BadRow) "__init__" = some (some (.ref A.a_BadRow___init__))
  iRo : PySem.W.findIn K (.ref A.a_Round) "__init__" = some (some (.ref A.a_Round___init__))
  mkB : Mk K A.a_Book A.a_Book___init__
  mkH : Mk K A.a_Hanging A.a_Hanging___init__
  nBH : NoAttr K A.a_Book "hooks"
  nBW : NoAttr K A.a_Book "waits"
  nBr : PySem.W.findIn K (.ref A.a_BadRow) "name" = some none
  nH : NoAttr K A.a_Hanging "hooks"
  nRo : PySem.W.findIn K (.ref A.a_Round) "names" = some none
  tBr : PySem.W.typeIn K (.ref A.a_BadRow___init__) = some (.type "function")
  tRo : PySem.W.typeIn K (.ref A.a_Round___init__) = some (.type "function")
  xBr : OexC K A.a_BadRow
  xRo : OexC K A.a_Round
  xfBr : XfC K A.a_BadRow
  xfRo : XfC K A.a_Round
end K5
set_option Elab.async false
set_option linter.all false
set_option maxRecDepth 100000
set_option maxHeartbeats 4000000
namespace K5
open PySem L2
local macro_rules | `(tactic| walk_at "rd1") => `(tactic| first
  | refine ⟨_, _, rfl, rfl, ?_⟩
  | refine ⟨_, _, _, _, rfl, rfl, SqL.of (by assumption), rfl, ?_⟩
  | refine ⟨_, _, _, _, rfl, rfl, (by assumption), rfl, ?_⟩
  | refine .inl ⟨_, rfl, ?_⟩
  | refine ⟨_, rfl, ?_⟩
  | refine ⟨(by unfold CMul; omega), ?_⟩
  | refine ⟨(by unfold CPow; omega), ?_⟩
  | refine ⟨(by (try dsimp only); omega), ?_⟩
  | refine ⟨(by unfold CDiv; omega), ?_⟩
  | fail "rd1")
local macro_rules | `(tactic| walk_at "rd") => `(tactic| repeat' (walk_at "rd1"))
open PySem L2
section
variable {P : Program} {w : World} {K : PySem.W.Frag} {mg : Str → Option Value} {base : Heap} {A : Ad}
def er (H : Hp) (st : Addr) : Hp := fun b => if b = st then none else H b
theorem er_ne {H : Hp} {st b : Addr} (h : b ≠ st) : er H st b = H b := if_neg h
theorem er_some {H : Hp} {st b : Addr} {o : HO} (h : er H st b = some o) : b ≠ st ∧ H b = some o := by
  by_cases e : b = st
  · rw [e] at h
    rw [show er H st st = none from if_pos rfl] at h
    cases h
  · exact ⟨e, (er_ne e).symm.trans h⟩
theorem er_same (H : Hp) (st : Addr) : Same (er H st) H := fun _ _ h => (er_some h).2
theorem er_upd (H : Hp) (st : Addr) (o : HO) : er (upd H st o) st = er H st := by
  funext b
  by_cases e : b = st
  · rw [e]; exact (if_pos rfl).trans (if_pos rfl).symm
  · rw [er_ne e, er_ne e, upd_ne e]
theorem er_of {H : Hp} {st b : Addr} {o : HO} (h : b ≠ st) (e : H b = some o) : er H st b = some o := (er_ne h).trans e
theorem er_mono {H H' : Hp} {st : Addr} (s : Same H H') : Same (er H st) (er H' st) := fun b o h =>
  er_of (er_some h).1 (s _ _ (er_some h).2)
def five (c : Addr) (i l m n : Int) : HO := .lst [.ref c, .int i, .int l, .int m, .int n]
structure Sta (H : Hp) (st c : Addr) (b : Int) : Prop where
  ex : ∃ (cs : List Int) (i : Nat) (l m n : Int), H st = some (five c (i : Int) l m n) ∧ er H st c = some (.lst (cs.map V.int)) ∧ i ≤ cs.length ∧ 0 ≤ l ∧ 0 ≤ m ∧ m < 2147483647 ∧ 0 ≤ n ∧ n ≤ b ∧ b ≤ 1000000
theorem Sta.same {H H' : Hp} {st c : Addr} {b : Int} (h : Sta H st c b) (s : Same H H') : Sta H' st c b := by
  obtain ⟨cs, i, l, m, n, h1, h2, h3⟩ := h.ex
  exact ⟨cs, i, l, m, n, s _ _ h1, er_mono s _ _ h2, h3⟩
theorem Sta.le {H : Hp} {st c : Addr} {b b' : Int} (h : Sta H st c b) (hb : b ≤ b') (h9 : b' ≤ 1000000) : Sta H st c b' := by
  obtain ⟨cs, i, l, m, n, h1, h2, h3, h4, h5, h6, h7, h8, _⟩ := h.ex
  exact ⟨cs, i, l, m, n, h1, h2, h3, h4, h5, h6, h7, by omega, h9⟩
theorem Sta.ne {H : Hp} {st c p : Addr} {b : Int} (h : Sta H st c b) (hp : H p = none) : p ≠ st := by
  obtain ⟨cs, i, l, m, n, h1, _⟩ := h.ex
  exact fun e => by rw [e, h1] at hp; cases hp
theorem Sta.nec {H : Hp} {st c p : Addr} {b : Int} (h : Sta H st c b) (hp : er H st p = none) : c ≠ p := by
  obtain ⟨cs, i, l, m, n, _, h1, _⟩ := h.ex
  exact ne_of_none h1 hp
theorem Same.new {H : Hp} {p : Addr} {o : HO} (hp : H p = none) : Same H (upd H p o) := fun b u e => by
  rw [upd_ne (ne_of_none e hp)]; exact e
theorem sqUp {K : PySem.W.Frag} {H H' : Hp} {a : Addr} {xs : List V} (h : SqL K H a xs) (s : Same H H') : SqL K H' a xs := s.seq h
theorem sqEr {K : PySem.W.Frag} {H : Hp} {st a : Addr} {xs : List V} (h : SqL K (er H st) a xs) : SqL K H a xs := (er_same H st).seq h
theorem er_updp {H : Hp} {st p : Addr} {o : HO} (hp : p ≠ st) : er (upd H p o) st = upd (er H st) p o := by
  funext b
  by_cases e : b = st
  · rw [e, upd_ne (fun z => hp z.symm)]; exact (if_pos rfl).trans (if_pos rfl).symm
  · by_cases e2 : b = p
    · rw [e2, upd_same, er_ne hp, upd_same]
    · rw [upd_ne e2, er_ne e, er_ne e, upd_ne e2]
theorem er_none {H : Hp} {st p : Addr} (h : H p = none) : er H st p = none := by
  by_cases e : p = st
  · exact if_pos e
  · exact (er_ne e).trans h
/-- what a helper that draws leaves: the state, and all that stood beside it -/
structure Gs (st c : Addr) (H H' : Hp) (b : Int) : Prop where
  sta : Sta H' st c b
  same : Same (er H st) (er H' st)
theorem Gs.trans {st c : Addr} {H H1 H2 : Hp} {b b' : Int} (g : Gs st c H H1 b) (g' : Gs st c H1 H2 b') : Gs st c H H2 b' := ⟨g'.sta, g.same.trans g'.same⟩
theorem Gs.refl {st c : Addr} {H : Hp} {b : Int} (h : Sta H st c b) : Gs st c H H b := ⟨h, Same.refl _⟩
theorem Gs.of_upd {st c : Addr} {H : Hp} {o : HO} {b : Int} (h : Sta (upd H st o) st c b) : Gs st c H (upd H st o) b := ⟨h, by rw [er_upd]; exact Same.refl _⟩
theorem Gs.of_same {st c : Addr} {H H' : Hp} {b : Int} (h : Sta H st c b) (s : Same H H') : Gs st c H H' b := ⟨h.same s, er_mono s⟩
theorem Gs.le {st c : Addr} {H H' : Hp} {b b' : Int} (g : Gs st c H H' b) (hb : b ≤ b') (h9 : b' ≤ 1000000) : Gs st c H H' b' := ⟨g.sta.le hb h9, g.same⟩
/-- a thing of the helper's own changes -/
theorem Gs.set {st c p : Addr} {H H' : Hp} {b : Int} {o : HO} (g : Gs st c H H' b) (hc : er H st c ≠ none) (hp : er H st p = none) (hs : p ≠ st) : Gs st c H (upd H' p o) b := by
  refine ⟨?_, fun b u e => ?_⟩
  · obtain ⟨cs, i, l, m, n, h1, h2, h3⟩ := g.sta.ex
    refine ⟨cs, i, l, m, n, by rw [upd_ne (fun z => hs z.symm)]; exact h1, ?_, h3⟩
    rw [er_updp hs, upd_ne (fun z => hc (by rw [z]; exact hp))]
    exact h2
  · rw [er_updp hs, upd_ne (ne_of_none e hp)]
    exact g.same _ _ e
theorem Gs.new {st c p : Addr} {H H' : Hp} {b : Int} {o : HO} (g : Gs st c H H' b) (hp : H' p = none) : Gs st c H (upd H' p o) b :=
  g.trans (Gs.of_same g.sta (Same.new hp))
theorem Sta.hc {H : Hp} {st c : Addr} {b : Int} (h : Sta H st c b) : er H st c ≠ none := by
  obtain ⟨cs, i, l, m, n, _, h1, _⟩ := h.ex
  rw [h1]
  exact fun z => by cases z
theorem while_ex {c : TT} {tb : TS} {D : Ends} {σ : St} {H : Hp} (W : Nat → St → Hp → Prop) (Ex : St → Hp → Prop) {m : Nat} (h0 : W m σ H)
    (hs : ∀ nx : St → Hp → Prop, (∀ σ H, Ex σ H → nx σ H) → ∀ m σ H, W m σ H → c σ H fun b H1 => if b = true then ∃ N : St → Hp → Prop, (∀ σ' H', N σ' H' → ∃ m', m' < m ∧ W m' σ' H') ∧ tb { D with nx := N, ct := N, bk := nx } σ H1 else nx σ H1)
    (hd : ∀ σ H, Ex σ H → D.nx σ H) : tWhile c tb D σ H := ⟨W, ⟨m, h0⟩, hs D.nx hd⟩
theorem cast_heap {F : Hp → Prop} {a b : Hp} (e : a = b) (h : F b) : F a := e ▸ h
def spTake : Sp := fun vs H Q _ => ∃ (st c : Addr) (many b : Int), vs = [.ref st, .int many] ∧ Sta H st c b ∧ b + 1 ≤ 1000000 ∧ 0 < many ∧ many < 1073741824 ∧
  ∀ (r : Int) (o : HO), 0 ≤ r → r < many → Sta (upd H st o) st c (b + 1) → Q (.int r) (upd H st o)
def spFresh (K : PySem.W.Frag) : Sp := fun vs H Q _ => ∃ (a : Addr) (ns : List Int), vs = [.ref a] ∧ SqL K H a (ns.map V.int) ∧
  ∀ (st c : Addr) (H' : Hp), Same H (er H' st) → Sta H' st c 0 → Q (.ref st) H'
def spOne (K : PySem.W.Frag) : Sp := fun vs H Q _ => ∃ (st c t : Addr) (xs : List V) (b : Int), vs = [.ref st, .ref t] ∧ Sta H st c b ∧ b + 1 ≤ 1000000 ∧ SqL K (er H st) t xs ∧ 0 < xs.length ∧ xs.length < 1073741824 ∧
  ∀ (i : Nat) (v : V) (H' : Hp), xs[i]? = some v → Gs st c H H' (b + 1) → Q v H'
def spMix (K : PySem.W.Frag) : Sp := fun vs H Q _ => ∃ (st c t : Addr) (ss : List Str) (b : Int), vs = [.ref st, .ref t] ∧ Sta H st c b ∧ b + 64 ≤ 1000000 ∧ SqL K (er H st) t (ss.map V.str) ∧ ss.length ≤ 64 ∧ (∀ s ∈ ss, PyData.strOk s = true) ∧
  ∀ (p : Addr) (ys : List Str) (H' : Hp), ys.Perm ss → Gs st c H H' (b + 64) → er H' st p = some (.lst (ys.map V.str)) → er H st p = none → Q (.ref p) H'
theorem ok_take (T : Txt K mg A) : FnOk P w K mg base CX0 1 A.a__law_take A.d__law_take P__law_take spTake := by
  refine T.f__law_take.ok sc__law_take (fun vs H Q E h => ?_) (fun cdv A' outer s H vs Q E hr h => ?_)
  · obtain ⟨st, c, many, b, rfl, _⟩ := h
    rfl
  · obtain ⟨st, c, many, b, rfl, S, hb1, hm0, hm1, k⟩ := h
    obtain ⟨cs, i, l, m, n, h1, h2, h3, h4, h5, h6, h7, h8, h9⟩ := S.ex
    refine ⟨_, (pss_cons (ps_asg (pe_op op_add (pe_ix ix_list (pv 0) pe_int (fun _ _ => rfl)) pe_int) (pg_sub (pv 0) pe_int set_list))
 (pss_cons (ps_while PassesOwn.never (PW.pt (pw_and (pt_cmpR op_eq (pe_ix ix_list (pv 0) pe_int (fun _ _ => rfl)) pe_int (nomark _)) (pw_and1 (pt_cmpR op_lt (pe_ix ix_list (pv 0) pe_int (fun _ _ => rfl)) (pe_callB call_len_seq (by rfl) T.len PySem.boot_len (pa_cons (pe_ix ix_list (pv 0) pe_int (fun _ _ => rfl)) pa_nil)) (nomark _)))))
 (pss_cons (ps_set (i := 2) sc__law_take.nd rfl (Or.inl rfl) (pe_callB call_abs (by rfl) T.abs (by decide +kernel) (pa_cons (pe_ix ix_list (pe_ix ix_list (pv 0) pe_int (fun _ _ => rfl)) (pe_ix ix_list (pv 0) pe_int (fun _ _ => rfl)) (fun _ _ => rfl)) pa_nil)))
 (pss_cons (ps_asg (pe_op op_add (pe_ix ix_list (pv 0) pe_int (fun _ _ => rfl)) pe_int) (pg_sub (pv 0) pe_int set_list))
 (pss_one (ps_if (pt_cmpR op_ge (pv 2) (pe_op op_pow pe_int pe_int) (nomark _))
 (pss_one (ps_asg (pv 2) (pg_sub (pv 0) pe_int set_list)))
 (pss_one (ps_asg (pe_op op_mod (pe_callTy call_int1 (by rfl) T.int (by decide +kernel) (pa_cons (pe_op op_add (pe_op op_add (pe_op op_mul (pe_ix ix_list (pv 0) pe_int (fun _ _ => rfl)) pe_int) (pv 2)) pe_int) pa_nil)) pe_int) (pg_sub (pv 0) pe_int set_list))))))))
 (pss_cons (ps_if (pt_cmpR op_gt (pe_ix ix_list (pv 0) pe_int (fun _ _ => rfl)) pe_int (nomark _))
 (pss_cons (ps_set (i := 3) sc__law_take.nd rfl (Or.inl rfl) (pe_op op_mod (pe_callTy call_int1 (by rfl) T.int (by decide +kernel) (pa_cons (pe_ix ix_list (pv 0) pe_int (fun _ _ => rfl)) pa_nil)) (pv 1)))
 (pss_cons (ps_asg (pe_op op_fdiv (pe_ix ix_list (pv 0) pe_int (fun _ _ => rfl)) (pv 1)) (pg_sub (pv 0) pe_int set_list))
 (pss_one (ps_ret (pv 3)))))
 pss_nil)
 (pss_cons (ps_set (i := 4) sc__law_take.nd rfl (Or.inl rfl) (pe_op op_mod (pe_callTy call_int1 (by rfl) T.int (by decide +kernel) (pa_cons (pe_op op_pow (pe_op op_add (pe_op op_add (pe_ix ix_list (pv 0) pe_int (fun _ _ => rfl)) (pe_op op_mul pe_int (pe_ix ix_list (pv 0) pe_int (fun _ _ => rfl)))) pe_int) pe_int) pa_nil)) pe_int))
 (pss_cons (ps_set (i := 4) sc__law_take.nd rfl (Or.inl rfl) (pe_op op_mod (pe_callTy call_int1 (by rfl) T.int (by decide +kernel) (pa_cons (pe_op op_pow (pe_op op_add (pv 4) (pe_op op_mul pe_int (pe_ix ix_list (pv 0) pe_int (fun _ _ => rfl)))) pe_int) pa_nil)) pe_int))
 (pss_one (ps_ret (pe_op op_mod (pe_callTy call_int1 (by rfl) T.int (by decide +kernel) (pa_cons (pe_op op_fdiv (pv 4) pe_int) pa_nil)) (pv 1))))))))), ?_⟩
    -- state[4] = state[4] + 1
    refine ⟨_, rfl, _, _, _, _, rfl, rfl, SqL.of h1, rfl, _, _, rfl, rfl, _, rfl, _, _, _, _, rfl, rfl, h1, rfl, ?_⟩
    refine while_ex (fun mm σ' H' => ∃ (i : Nat) (l m : Int) (v : Option V), σ' = [some (.ref st), some (.int many), v, none, none] ∧ H' = upd H st (five c (i : Int) l m (n + 1)) ∧ i ≤ cs.length ∧ 0 ≤ l ∧ 0 ≤ m ∧ m < 2147483647 ∧ mm = cs.length - i)
      (fun σ' H' => ∃ (i : Nat) (l m : Int) (v : Option V), σ' = [some (.ref st), some (.int many), v, none, none] ∧ H' = upd H st (five c (i : Int) l m (n + 1)) ∧ i ≤ cs.length ∧ 0 ≤ l ∧ 0 ≤ m ∧ m < 2147483647)
      ⟨i, l, m, none, rfl, rfl, h3, h4, h5, h6, rfl⟩ (fun nx hnx => ?_) ?_
    rintro mm σ' H' ⟨i, l, m, v, rfl, rfl, h3, h4, h5, h6, rfl⟩
    have hu : upd H st (five c (i : Int) l m (n + 1)) st = some (five c (i : Int) l m (n + 1)) := upd_same
    have hc : SqL K (upd H st (five c (i : Int) l m (n + 1))) c (cs.map V.int) := SqL.of ((er_same _ st) _ _ (by rw [er_upd]; exact h2))
    -- the test
    refine ⟨_, rfl, _, _, _, _, rfl, rfl, SqL.of hu, rfl, rfl, _, rfl, ?_⟩
    refine ite2 (fun hl => ?_) (fun hl => ?_)
    · have el : l = 0 := by
        have q := of_decide_eq_true hl
        cases q
        rfl
      subst el
      refine ⟨_, rfl, _, _, _, _, rfl, rfl, SqL.of hu, rfl, _, rfl, _, _, _, _, rfl, rfl, SqL.of hu, rfl, _, _, rfl, .inl hc, _, _, rfl, rfl, _, rfl, ?_⟩
      refine ite2 (fun hi => ?_) (fun hi => ?_)
      · have hi' : i < cs.length := by
          have q := of_decide_eq_true hi
          rw [List.length_map] at q
          omega
        refine ⟨_, fun _ _ z => z, ?_⟩
        -- cell = abs(state[0][state[1]]); state[1] = state[1] + 1
        refine ⟨_, rfl, _, _, _, _, rfl, rfl, SqL.of hu, rfl, _, rfl, _, _, _, _, rfl, rfl, SqL.of hu, rfl, _, _, _, _, rfl, rfl, hc, atI_nat (by rw [List.getElem?_map, List.getElem?_eq_getElem hi']; rfl), _, rfl, ?_⟩
        refine ⟨_, rfl, _, _, _, _, rfl, rfl, SqL.of hu, rfl, _, _, rfl, rfl, _, rfl, _, _, _, _, rfl, rfl, hu, rfl, ?_⟩
        have e2 : upd (upd H st (five c (i : Int) 0 m (n + 1))) st (five c ((i : Int) + 1) 0 m (n + 1)) = upd H st (five c (((i + 1 : Nat)) : Int) 0 m (n + 1)) := upd_upd
        refine cast_heap e2 ?_
        have hu2 : upd H st (five c (((i + 1 : Nat)) : Int) 0 m (n + 1)) st = some (five c (((i + 1 : Nat)) : Int) 0 m (n + 1)) := upd_same
        generalize hcell : (if cs[i] < 0 then -cs[i] else cs[i]) = cell
        have hc0 : 0 ≤ cell := by
          rw [← hcell]
          split <;> omega
        -- if cell >= 10 ** 18
        refine ⟨_, rfl, _, _, rfl, rfl, ⟨by decide, by decide, by decide⟩, _, _, rfl, rfl, _, rfl, ?_⟩
        refine ite2 (fun hg => ?_) (fun hg => ?_)
        · refine ⟨_, rfl, _, rfl, _, _, _, _, rfl, rfl, hu2, rfl, ?_⟩
          exact ⟨cs.length - (i + 1), by omega, i + 1, cell, m, _, rfl, upd_upd, hi', hc0, h5, h6, rfl⟩
        · have hlt : cell < 10 ^ 18 := by
            refine Int.not_le.mp fun q => hg (decide_eq_true ?_)
            exact q
          refine ⟨_, rfl, _, _, _, _, rfl, rfl, SqL.of hu2, rfl, _, _, rfl, rfl, .inl ⟨by omega, by omega⟩, _, rfl, _, _, rfl, rfl, _, _, rfl, rfl, .inl ⟨_, rfl, _, _, rfl, rfl, (by show (0 : Int) < 2147483647; decide), _, rfl, _, _, _, _, rfl, rfl, hu2, rfl, ?_⟩⟩
          refine ⟨cs.length - (i + 1), by omega, i + 1, 0, (m * 131 + cell + 1) % 2147483647, _, rfl, upd_upd, hi', Int.le_refl _, Int.emod_nonneg _ (by decide), Int.emod_lt_of_pos _ (by decide), rfl⟩
      · exact hnx _ _ ⟨i, 0, m, v, rfl, rfl, h3, h4, h5, h6⟩
    · exact hnx _ _ ⟨i, l, m, v, rfl, rfl, h3, h4, h5, h6⟩
    -- behind the loop
    rintro σ' H' ⟨i, l, m, v, rfl, rfl, h3, h4, h5, h6⟩
    have hu : upd H st (five c (i : Int) l m (n + 1)) st = some (five c (i : Int) l m (n + 1)) := upd_same
    have mk : ∀ (i : Nat) (l m : Int), i ≤ cs.length → 0 ≤ l → 0 ≤ m → m < 2147483647 → Sta (upd H st (five c (i : Int) l m (n + 1))) st c (b + 1) := fun i l m h3 h4 h5 h6 =>
      ⟨cs, i, l, m, n + 1, upd_same, by rw [er_upd]; exact h2, h3, h4, h5, h6, by omega, by omega, hb1⟩
    refine ⟨_, rfl, _, _, _, _, rfl, rfl, SqL.of hu, rfl, _, _, rfl, rfl, _, rfl, ?_⟩
    refine ite2 (fun hl => ?_) (fun hl => ?_)
    · refine ⟨_, rfl, _, _, _, _, rfl, rfl, SqL.of hu, rfl, .inl ⟨_, rfl, _, rfl, _, _, rfl, rfl, hm0, ?_⟩⟩
      refine ⟨_, rfl, _, _, _, _, rfl, rfl, SqL.of hu, rfl, _, rfl, _, _, rfl, rfl, ⟨hm0, by omega⟩, _, rfl, _, _, _, _, rfl, rfl, hu, rfl, ?_⟩
      refine cast_heap (b := upd H st (five c (i : Int) (l / many) m (n + 1))) upd_upd ?_
      refine ⟨_, rfl, ?_⟩
      exact k _ _ (Int.emod_nonneg _ (by omega)) (Int.emod_lt_of_pos _ hm0) (mk i (l / many) m h3 (Int.ediv_nonneg h4 (by omega)) h5 h6)
    · have hp : ∀ x : Int, 0 ≤ x → x < 10000000000 → (0 : Int) ≤ 3 ∧ (3 : Int) ≤ 1000000 ∧ x.natAbs < 2 ^ 64 := fun x a b => ⟨by omega, by omega, by omega⟩
      walk_at "rd"
      exact k _ _ (Int.emod_nonneg _ (by omega)) (Int.emod_lt_of_pos _ hm0) (mk i l m h3 h4 h5 h6)
theorem ok_fresh (T : Txt K mg A) : FnOk P w K mg base CX0 1 A.a__law_fresh A.d__law_fresh P__law_fresh (spFresh K) := by
  refine T.f__law_fresh.ok sc__law_fresh (fun vs H Q E h => ?_) (fun cdv A' outer s H vs Q E hr h => ?_)
  · obtain ⟨a, ns, rfl, _⟩ := h
    rfl
  · obtain ⟨a, ns, rfl, hS, k⟩ := h
    refine ⟨_, (pss_one (ps_ret (pe_lst (pa_cons (pe_callTy call_list_of (by rfl) T.list (by decide +kernel) (pa_cons (pe_slice sl_list (pv 0) po_none (po_some pe_int)) pa_nil)) (pa_cons pe_int (pa_cons pe_int (pa_cons pe_int (pa_cons pe_int pa_nil)))))))), ?_⟩
    refine ⟨_, rfl, _, rfl, _, _, rfl, hS, fun p hp => ⟨_, _, rfl, .inl (SqL.of upd_same), fun c hc => ⟨by show 5 ≤ sizeLine; decide, fun st hst => ?_⟩⟩⟩
    have s1 : Same H (upd (upd H p (.lst (cutV (ns.map V.int) none (some 40)))) c (.lst (cutV (ns.map V.int) none (some 40)))) := (Same.new hp).trans (Same.new hc)
    have hst0 : H st = none := s1.free hst
    have ec : cutV (ns.map V.int) none (some 40) = (ns.take 40).map V.int := by
      unfold cutV
      rw [HT.sIx_none, show ((40 : Int)) = ((40 : Nat) : Int) from rfl, HT.sIx_nat]
      rw [List.drop_zero, Nat.sub_zero, List.map_take, List.length_map]
      by_cases h40 : 40 ≤ ns.length
      · rw [Nat.min_eq_left h40]
      · rw [Nat.min_eq_right (by omega), List.take_of_length_le (by simp), List.take_of_length_le (by simp; omega)]
    have hcs : c ≠ st := fun e => by rw [← e, upd_same] at hst; cases hst
    refine k st c _ (fun b o e => er_of (fun z => by rw [z, hst0] at e; cases e) (by rw [upd_ne (fun z => by rw [z, hst0] at e; cases e)]; exact s1 _ _ e)) ?_
    refine ⟨ns.take 40, 0, 0, 0, 0, upd_same, er_of hcs ?_, Nat.zero_le _, Int.le_refl _, Int.le_refl _, by decide, Int.le_refl _, Int.le_refl _, by decide⟩
    rw [upd_ne hcs, upd_same, ec]
theorem ok_one (T : Txt K mg A) : FnOk P w K mg base CX0 2 A.a__law_one A.d__law_one P__law_one (spOne K) := by
  have G__law_take : FnOk P w K mg base CX0 1 A.a__law_take A.d__law_take P__law_take spTake := ok_take T
  refine T.f__law_one.ok sc__law_one (fun vs H Q E h => ?_) (fun cdv A' outer s H vs Q E hr h => ?_)
  · obtain ⟨st, c, t, xs, b, rfl, _⟩ := h
    rfl
  · obtain ⟨st, c, t, xs, b, rfl, S, hb, hS, h0, h1, k⟩ := h
    refine ⟨_, (pss_one (ps_ret (pe_ix ix_list (pv 1) (pe_call G__law_take (hr.mono (by omega)) (by rfl) T.g__law_take T.f__law_take.kp T.b__law_take .nil pass0 (pa_cons (pv 0) (pa_cons (pe_callB call_len_seq (by rfl) T.len PySem.boot_len (pa_cons (pv 1) pa_nil)) pa_nil))) (fun _ _ => rfl)))), ?_⟩
    refine ⟨_, rfl, _, rfl, _, rfl, _, _, rfl, .inl (sqEr hS), st, c, _, b, rfl, S, hb, by omega, by omega, fun r o hr0 hr1 S' => ?_⟩
    have g := Gs.of_upd S'
    have hi : r.toNat < xs.length := by omega
    refine ⟨_, _, _, _, rfl, rfl, sqEr (sqUp hS g.same), at_of (j := r.toNat) (by omega) (List.getElem?_eq_getElem hi), ?_⟩
    exact k r.toNat _ _ (List.getElem?_eq_getElem hi) g
end
end K5
set_option Elab.async false
set_option linter.all false
set_option maxRecDepth 100000
set_option maxHeartbeats 4000000
namespace K5
open PySem L2
local macro_rules | `(tactic| walk_at "rd1") => `(tactic| first
  | refine ⟨_, _, rfl, rfl, ?_⟩
  | refine ⟨_, _, _, _, rfl, rfl, SqL.of (by assumption), rfl, ?_⟩
  | refine ⟨_, _, _, _, rfl, rfl, (by assumption), rfl, ?_⟩
  | refine .inl ⟨_, rfl, ?_⟩
  | refine ⟨_, rfl, ?_⟩
  | refine ⟨(by unfold CMul; omega), ?_⟩
  | refine ⟨(by unfold CPow; omega), ?_⟩
  | refine ⟨(by (try dsimp only); omega), ?_⟩
  | refine ⟨(by unfold CDiv; omega), ?_⟩
  | fail "rd1")
local macro_rules | `(tactic| walk_at "rd") => `(tactic| repeat' (walk_at "rd1"))
section
variable {P : Program} {w : World} {K : PySem.W.Frag} {mg : Str → Option Value} {base : Heap} {A : Ad}
theorem stUp {H H' : Hp} {a : Addr} {xs : List V} (h : SqT K H a xs) (s : Same H H') : SqT K H' a xs := by
  rcases h with (h | ⟨o, h⟩) | h
  · exact .inl (.inl (s _ _ h))
  · exact .inl (.inr ⟨o, s _ _ h⟩)
  · exact .inr h
theorem map_erase {α β : Type} (g : α → β) :
    ∀ (l : List α) (j : Nat), (l.eraseIdx j).map g = (l.map g).eraseIdx j
  | [], _ => rfl
  | _ :: _, 0 => rfl
  | a :: l, j + 1 => congrArg (g a :: ·) (map_erase g l j)
theorem erase_perm {α : Type} : ∀ {ls : List α} {i : Nat} {y : α}, ls[i]? = some y → (y :: ls.eraseIdx i).Perm ls
  | a :: l, 0, y, h => by
    have e : a = y := Option.some.inj h
    rw [e]
    exact List.Perm.refl _
  | a :: l, i + 1, y, h => (List.Perm.swap a y (l.eraseIdx i)).trans ((erase_perm (ls := l) (i := i) (y := y) h).cons a)
  | [], i, y, h => by simp at h
theorem seqIx {r : Int} {n : Nat} (h0 : 0 ≤ r) (h1 : r < (n : Int)) : seqIndex? r n = some r.toNat := by
  unfold seqIndex?
  have e : ¬ r < 0 := by omega
  simp only [e, if_false]
  have : ((0 : Int) ≤ r && r < (n : Int)) = true := by simp [h0, h1]
  simp [h0, h1]
mutual
theorem dpSame {H H' : Hp} (s : Same H H') : ∀ {v : V} {d : PyData}, Dp K H v d → Dp K H' v d
  | _, _, .non => .non
  | _, _, .bl b => .bl b
  | _, _, .int i => .int i
  | _, _, .str x => .str x
  | _, _, .lst h q => .lst (s.seq h) (dpAllSame s q)
  | _, _, .tup h q => .tup (stUp h s) (dpAllSame s q)
theorem dpAllSame {H H' : Hp} (s : Same H H') : ∀ {vs : List V} {ds : List PyData}, DpAll K H vs ds → DpAll K H' vs ds
  | _, _, .nil => .nil
  | _, _, .cons a b => .cons (dpSame s a) (dpAllSame s b)
end
theorem dpStrs {H : Hp} : ∀ ss : List Str, DpAll K H (ss.map V.str) (ss.map PyData.str)
  | [] => .nil
  | s :: ss => .cons (.str s) (dpStrs ss)
theorem strs_lay : ∀ {ss : List Str}, (∀ s ∈ ss, PyData.strOk s = true) → PyData.canLayAll0 (ss.map PyData.str) = true
  | [], _ => by simp [PyData.canLayAll0]
  | s :: ss, h => by
    simp only [List.map_cons, PyData.canLayAll0, PyData.canLay0, h s (List.mem_cons_self ..), Bool.true_and]
    exact strs_lay fun t ht => h t (List.mem_cons_of_mem _ ht)
theorem strs_depth : ∀ ss : List Str, PyData.depthAll (ss.map PyData.str) = 0
  | [] => by simp [PyData.depthAll]
  | s :: ss => by simp only [List.map_cons, PyData.depthAll, PyData.depth, strs_depth ss]; rfl
theorem strs_shaped {ss : List Str} (h : ∀ s ∈ ss, PyData.strOk s = true) : SeqAt.shaped (.list (ss.map PyData.str)) = true := by
  show (PyData.canLay0 (.list (ss.map PyData.str)) && decide (PyData.depth (.list (ss.map PyData.str)) ≤ 64)) = true
  rw [Bool.and_eq_true]
  refine ⟨by simp only [PyData.canLay0]; exact strs_lay h, decide_eq_true ?_⟩
  simp only [PyData.depth, strs_depth]
  decide
theorem eqv_strs_nil : ∀ ss : List Str, PyData.eqv (.list (ss.map PyData.str)) (.list []) = ss.isEmpty
  | [] => by simp [PyData.eqv, PyData.eqvAll]
  | s :: ss => by simp [PyData.eqv, PyData.eqvAll]
theorem perm_move {α : Type} {fs ls : List α} {i : Nat} {y : α} (h : ls[i]? = some y) : (fs ++ [y] ++ ls.eraseIdx i).Perm (fs ++ ls) := by
  rw [List.append_assoc]
  exact List.Perm.append_left fs (erase_perm h)
theorem ok_mix (T : Txt K mg A) : FnOk P w K mg base CX0 2 A.a__law_mix A.d__law_mix P__law_mix (spMix K) := by
  have G__law_take : FnOk P w K mg base CX0 1 A.a__law_take A.d__law_take P__law_take spTake := ok_take T
  refine T.f__law_mix.ok sc__law_mix (fun vs H Q E h => ?_) (fun cdv A' outer s H vs Q E hr h => ?_)
  · obtain ⟨st, c, t, ss, b, rfl, _⟩ := h
    rfl
  · obtain ⟨st, c, t, ss, b, rfl, S, hb, hS, hl, hok, k⟩ := h
    refine ⟨_, (pss_cons (ps_par (i := 2) (j := 3) (by rfl) sc__law_mix.nd rfl rfl (by decide) rfl rfl (pa_cons (pe_callTy call_list_of (by rfl) T.list (by decide +kernel) (pa_cons (pv 1) pa_nil)) (pa_cons (pe_lst pa_nil) pa_nil)) (by rfl))
 (pss_cons (ps_while PassesOwn.never (pt_cmpR (op_neD hr.units) (pv 2) (pe_lst pa_nil) (nomark _))
 (pss_one (ps_expr (pe_bm PySem.F.plainAttrs_list PySem.F.slot_list_append PySem.F.type_list_append mt_append (pv 3) (pa_cons (pe_bm PySem.F.plainAttrs_list PySem.F.slot_list_pop PySem.F.type_list_pop mt_popAt (pv 2) (pa_cons (pe_call G__law_take (hr.mono (by omega)) (by rfl) T.g__law_take T.f__law_take.kp T.b__law_take .nil pass0 (pa_cons (pv 0) (pa_cons (pe_callB call_len_seq (by rfl) T.len PySem.boot_len (pa_cons (pv 2) pa_nil)) pa_nil))) pa_nil)) pa_nil)))))
 (pss_one (ps_ret (pv 3))))), ?_⟩
    refine ⟨_, rfl, _, _, rfl, .inl (sqEr hS), fun left nl => ⟨Nat.zero_le _, fun fnd nf => ⟨_, _, rfl, ?_⟩⟩⟩
    have nls : left ≠ st := S.ne nl
    have nf0 : H fnd = none := (Same.new nl).free nf
    have nfs : fnd ≠ st := S.ne nf0
    have nlf : left ≠ fnd := ne_of_none upd_same nf
    have el : er H st left = none := er_none nl
    have ef : er H st fnd = none := er_none nf0
    have g0 : Gs st c H (upd (upd H left (.lst (ss.map V.str))) fnd (.lst [])) b := (Gs.refl S).set S.hc el nls |>.set S.hc ef nfs
    refine while_ex (fun mm σ' H' => ∃ (ls fs : List Str), σ' = [some (.ref st), some (.ref t), some (.ref left), some (.ref fnd)] ∧ H' left = some (.lst (ls.map V.str)) ∧ H' fnd = some (.lst (fs.map V.str)) ∧ (fs ++ ls).Perm ss ∧ Gs st c H H' (b + (fs.length : Int)) ∧ mm = ls.length)
      (fun σ' H' => ∃ (fs : List Str), σ' = [some (.ref st), some (.ref t), some (.ref left), some (.ref fnd)] ∧ H' fnd = some (.lst (fs.map V.str)) ∧ fs.Perm ss ∧ Gs st c H H' (b + (fs.length : Int)))
      ⟨ss, [], rfl, by rw [upd_ne nlf, upd_same], by rw [upd_same]; rfl, List.Perm.refl _, by simpa using g0, rfl⟩ (fun nx hnx => ?_) ?_
    · rintro mm σ' H' ⟨ls, fs, rfl, h1, h2, hp, g, rfl⟩
      have hpl : fs.length + ls.length = ss.length := by rw [← List.length_append]; exact hp.length_eq
      have hls : ∀ s ∈ ls, PyData.strOk s = true := fun s hs => hok s (hp.mem_iff.mp (List.mem_append_right _ hs))
      refine ⟨_, rfl, Nat.zero_le _, fun e he => ⟨.list (ls.map PyData.str), .list [], ?_⟩⟩
      have h1' : upd H' e (.lst []) left = some (.lst (ls.map V.str)) := Same.new he _ _ h1
      have h2' : upd H' e (.lst []) fnd = some (.lst (fs.map V.str)) := Same.new he _ _ h2
      have g' : Gs st c H (upd H' e (.lst [])) (b + (fs.length : Int)) := g.new he
      refine ⟨.lst (SqL.of h1') (dpStrs ls), .lst (SqL.of upd_same) .nil, strs_shaped hls, by decide +kernel, _, rfl, ?_⟩
      rw [eqv_strs_nil]
      refine ite2 (fun hne => ?_) (fun hne => ?_)
      · have hpos : 0 < ls.length := by
          cases ls with
          | nil => cases hne
          | cons _ _ => exact Nat.succ_pos _
        refine ⟨_, fun _ _ z => z, ?_⟩
        refine ⟨_, rfl, .inl ⟨rfl, _, SqL.of h2'⟩, _, rfl, .inl ⟨rfl, _, SqL.of h1'⟩, _, rfl, _, rfl, _, _, rfl, .inl (SqL.of h1'), st, c, _, _, rfl, g'.sta, by omega, by rw [List.length_map]; omega, by rw [List.length_map]; omega, fun r o hr0 hr1 S' => ?_⟩
        rw [List.length_map] at hr1
        have g2 : Gs st c H (upd (upd H' e (.lst [])) st o) (b + (fs.length : Int) + 1) := g'.trans (Gs.of_upd S')
        have h1'' : upd (upd H' e (.lst [])) st o left = some (.lst (ls.map V.str)) := by rw [upd_ne nls]; exact h1'
        have h2'' : upd (upd H' e (.lst [])) st o fnd = some (.lst (fs.map V.str)) := by rw [upd_ne nfs]; exact h2'
        have hi : r.toNat < ls.length := by omega
        have hy : ls[r.toNat]? = some ls[r.toNat] := List.getElem?_eq_getElem hi
        refine ⟨_, _, _, r.toNat, _, rfl, rfl, h1'', by omega, by omega, ?_, by rw [List.getElem?_map, hy]; rfl, ?_⟩
        · rw [List.length_map]
          exact seqIx hr0 hr1
        · refine ⟨_, _, _, rfl, rfl, (by rw [upd_ne nlf.symm]; exact h2''), by rw [List.length_map]; exact Nat.lt_of_le_of_lt (show fs.length ≤ 64 by omega) (by decide), ?_⟩
          refine ⟨(ls.eraseIdx r.toNat).length, ?_, ls.eraseIdx r.toNat, fs ++ [ls[r.toNat]], rfl, ?_, ?_, (perm_move hy).trans hp, ?_, rfl⟩
          · rw [List.length_eraseIdx_of_lt hi]; omega
          · rw [upd_ne nlf, upd_same, map_erase]
          · rw [upd_same, List.map_append]; rfl
          · rw [List.length_append]
            refine Gs.le ((g2.set S.hc el nls).set S.hc ef nfs) (by simp; omega) (by simp; omega)
      · have hnil : ls = [] := by
          cases ls with
          | nil => rfl
          | cons _ _ => exact absurd rfl hne
        subst hnil
        exact hnx _ _ ⟨fs, rfl, h2', by rw [List.append_nil] at hp; exact hp, g'⟩
    · rintro σ' H' ⟨fs, rfl, h2, hp, g⟩
      refine ⟨_, rfl, k fnd fs H' hp (g.le (by have := hp.length_eq; omega) hb) (er_of nfs h2) ef⟩
end
end K5
set_option Elab.async false
set_option linter.all false
set_option maxRecDepth 100000
set_option maxHeartbeats 4000000
namespace K5
open PySem L2
local macro_rules | `(tactic| walk_at "rd1") => `(tactic| first
  | refine ⟨_, _, rfl, rfl, ?_⟩
  | refine ⟨_, _, _, _, rfl, rfl, SqL.of (by assumption), rfl, ?_⟩
  | refine ⟨_, _, _, _, rfl, rfl, (by assumption), rfl, ?_⟩
  | refine .inl ⟨_, rfl, ?_⟩
  | refine ⟨_, rfl, ?_⟩
  | refine ⟨(by unfold CMul; omega), ?_⟩
  | refine ⟨(by unfold CPow; omega), ?_⟩
  | refine ⟨(by (try dsimp only); omega), ?_⟩
  | refine ⟨(by unfold CDiv; omega), ?_⟩
  | fail "rd1")
local macro_rules | `(tactic| walk_at "rd") => `(tactic| repeat' (walk_at "rd1"))
section
variable {P : Program} {w : World} {K : PySem.W.Frag} {mg : Str → Option Value} {base : Heap} {A : Ad}
/-- both ways of a choice lead to what is said of the value -/
theorem joinA {te : TE} {g : TG} {u : TS} {D : Ends} {σ : St} {H : Hp} (R : V → Hp → Prop) (h : ∀ Q' : VK, (∀ v H', R v H' → Q' v H') → te σ H Q') (k : ∀ v H', R v H' → g v σ H' (u D)) : tSeq (tAsg te g) u D σ H := h _ k
/-- the same, where the step before stored a value in a slot -/
theorem joinG {j : Nat} {v : V} {te : TE} {g : TG} {u : TS} {D : Ends} {σ : St} {H : Hp} (R : V → Hp → Prop) (h : ∀ Q' : VK, (∀ v H', R v H' → Q' v H') → te (σ.set j (some v)) H Q') (k : ∀ w H', R w H' → g w (σ.set j (some v)) H' (u D)) : gName j v σ H (tSeq (tAsg te g) u D) := h _ k
end
end K5
set_option Elab.async false
set_option linter.all false
set_option maxRecDepth 100000
set_option maxHeartbeats 4000000
namespace K5
open PySem L2
local macro_rules | `(tactic| walk_at "rd1") => `(tactic| first
  | refine ⟨_, _, rfl, rfl, ?_⟩
  | refine ⟨_, _, _, _, rfl, rfl, SqL.of (by assumption), rfl, ?_⟩
  | refine ⟨_, _, _, _, rfl, rfl, (by assumption), rfl, ?_⟩
  | refine .inl ⟨_, rfl, ?_⟩
  | refine ⟨_, rfl, ?_⟩
  | refine ⟨(by unfold CMul; omega), ?_⟩
  | refine ⟨(by unfold CPow; omega), ?_⟩
  | refine ⟨(by (try dsimp only); omega), ?_⟩
  | refine ⟨(by unfold CDiv; omega), ?_⟩
  | fail "rd1")
local macro_rules | `(tactic| walk_at "rd") => `(tactic| repeat' (walk_at "rd1"))
section
variable {P : Program} {w : World} {K : PySem.W.Frag} {mg : Str → Option Value} {base : Heap} {A : Ad}
def pool1 : List Str := ["a", "b", "rice", "fish", "start", "done", "wish", "zz"]
def pool2 : List Str := ["station", "clocks", "abcdefgh", "meal", "go", "wait", "cloc", "on"]
def pool : List Str := ["a", "b", "rice", "fish", "start", "done", "wish", "zz", "station", "clocks", "abcdefgh", "meal", "go", "wait", "cloc", "on"]
theorem pool_nodup : pool.Nodup := by decide +kernel
theorem pool_ok : ∀ s ∈ pool, PyData.strOk s = true := by decide +kernel
def spNames (K : PySem.W.Frag) : Sp := fun vs H Q _ => ∃ (st c : Addr) (b : Int) (n : Nat), vs = [.ref st, .int n] ∧ Sta H st c b ∧ b + 64 ≤ 1000000 ∧ n ≤ 16 ∧
  ∀ (p : Addr) (ys : List Str) (H' : Hp), ys.Nodup → (∀ s ∈ ys, s ∈ pool) → ys.length = n → Gs st c H H' (b + 64) → er H' st p = some (.lst (ys.map V.str)) → er H st p = none → Q (.ref p) H'
theorem ok_names (T : Txt K mg A) : FnOk P w K mg base CX0 3 A.a__law_names A.d__law_names P__law_names (spNames K) := by
  have G__law_mix : FnOk P w K mg base CX0 2 A.a__law_mix A.d__law_mix P__law_mix (spMix K) := ok_mix T
  refine T.f__law_names.ok sc__law_names (fun vs H Q E h => ?_) (fun cdv A' outer s H vs Q E hr h => ?_)
  · obtain ⟨st, c, b, n, rfl, _⟩ := h
    rfl
  · obtain ⟨st, c, b, n, rfl, S, hb, hn, k⟩ := h
    refine ⟨_, (pss_cons (ps_set (i := 2) sc__law_names.nd rfl (Or.inl rfl) (pe_lst (pa_cons pe_str (pa_cons pe_str (pa_cons pe_str (pa_cons pe_str (pa_cons pe_str (pa_cons pe_str (pa_cons pe_str (pa_cons pe_str pa_nil))))))))))
 (pss_one (ps_ret (pe_slice sl_list (pe_call G__law_mix (hr.mono (by omega)) (by rfl) T.g__law_mix T.f__law_mix.kp T.b__law_mix .nil pass0 (pa_cons (pv 0) (pa_cons (pe_op op_cat (pv 2) (pe_lst (pa_cons pe_str (pa_cons pe_str (pa_cons pe_str (pa_cons pe_str (pa_cons pe_str (pa_cons pe_str (pa_cons pe_str (pa_cons pe_str pa_nil)))))))))) pa_nil))) po_none (po_some (pv 1)))))), ?_⟩
    refine ⟨by show 8 ≤ sizeLine; decide, fun p hp => ?_⟩
    refine ⟨_, rfl, _, rfl, by show 8 ≤ sizeLine; decide, fun q hq => ?_⟩
    have g1 : Gs st c H (upd (upd H p (.lst (pool1.map V.str))) q (.lst (pool2.map V.str))) b := ((Gs.refl S).new hp).new hq
    have h1 : upd (upd H p (.lst (pool1.map V.str))) q (.lst (pool2.map V.str)) p = some (.lst (pool1.map V.str)) := by
      rw [upd_ne (ne_of_none upd_same hq), upd_same]
    refine ⟨_, _, _, _, rfl, rfl, h1, upd_same, by show 16 ≤ sizeLine; decide, fun t ht => ?_⟩
    have nt := g1.sta.ne ht
    have g0 : Gs st c H (upd (upd (upd H p (.lst (pool1.map V.str))) q (.lst (pool2.map V.str))) t (.lst (pool1.map V.str ++ pool2.map V.str))) b := g1.new ht
    refine ⟨st, c, t, pool, b, rfl, g0.sta, hb, SqL.of (er_of nt upd_same), by decide, pool_ok, fun l ys H' hperm g hl hl0 => ?_⟩
    refine ⟨_, rfl, _, rfl, _, _, rfl, SqL.of ((er_same _ _) _ _ hl), fun d hd => ?_⟩
    have hlen : ys.length = 16 := by rw [hperm.length_eq]; rfl
    have ec : cutV (ys.map V.str) none (some (n : Int)) = (ys.take n).map V.str := by
      unfold cutV
      rw [HT.sIx_none, HT.sIx_nat, List.drop_zero, Nat.sub_zero, List.map_take, List.length_map, hlen, Nat.min_eq_left hn]
    have g3 : Gs st c H (upd H' d (.lst (cutV (ys.map V.str) none (some (n : Int))))) (b + 64) := (g0.trans g).new hd
    have hnd : ys.Nodup := hperm.nodup_iff.mpr pool_nodup
    refine k d (ys.take n) _ (hnd.sublist (List.take_sublist _ _)) (fun s hs => hperm.mem_iff.mp (List.mem_of_mem_take hs)) (by rw [List.length_take]; omega) g3 (er_of (g.sta.ne hd) ?_) ?_
    · rw [upd_same, ec]
    · have e0 := er_none (st := st) hd
      exact ((g0.trans g).same).free e0
end
end K5
set_option Elab.async false
set_option linter.all false
set_option maxRecDepth 100000
set_option maxHeartbeats 4000000
namespace K5
open PySem L2
local macro_rules | `(tactic| walk_at "rd1") => `(tactic| first
  | refine ⟨_, _, rfl, rfl, ?_⟩
  | refine ⟨_, _, _, _, rfl, rfl, SqL.of (by assumption), rfl, ?_⟩
  | refine ⟨_, _, _, _, rfl, rfl, (by assumption), rfl, ?_⟩
  | refine .inl ⟨_, rfl, ?_⟩
  | refine ⟨_, rfl, ?_⟩
  | refine ⟨(by unfold CMul; omega), ?_⟩
  | refine ⟨(by unfold CPow; omega), ?_⟩
  | refine ⟨(by (try dsimp only); omega), ?_⟩
  | refine ⟨(by unfold CDiv; omega), ?_⟩
  | fail "rd1")
local macro_rules | `(tactic| walk_at "rd") => `(tactic| repeat' (walk_at "rd1"))
section
variable {P : Program} {w : World} {K : PySem.W.Frag} {mg : Str → Option Value} {base : Heap} {A : Ad}
def kindOf : PyData → String
  | .none => "NoneType"
  | .bool _ => "bool"
  | .int _ => "int"
  | .str _ => "str"
  | .list _ => "list"
  | .tuple _ => "tuple"
  | .dict _ => "dict"
theorem tyL {H : Hp} {a : Addr} {xs : List V} (h : SqL K H a xs) : TyX K H (.ref a) (.type "list") := by
  rcases h with (h | ⟨o, h⟩) | ⟨o, _, _, h1, h2, _⟩
  · exact .base (.lst h)
  · exact .base (.frz h)
  · exact .kList h1 h2
theorem tyT {H : Hp} {a : Addr} {xs : List V} (h : SqT K H a xs) : TyX K H (.ref a) (.type "tuple") := by
  rcases h with (h | ⟨o, h⟩) | ⟨o, _, _, h1, h2, _⟩
  · exact .base (.tup h)
  · exact .fTuple h
  · exact .kTuple h1 h2
theorem tyD {H : Hp} {v : V} {d : PyData} (h : Dp K H v d) : TyX K H v (.type (kindOf d)) := by
  cases h with
  | non => exact .base .non
  | bl b => exact .base (.bl b)
  | int i => exact .base (.int i)
  | str x => exact .base (.str x)
  | lst h _ => exact tyL h
  | tup h _ => exact tyT h
theorem kit2 {K : PySem.W.Frag} {a b c : String} {r s : Bool} (h : kitB a b = some r) (k : kitB a c = some s) : PySem.W.kitAny K (.type a) [.type b, .type c] = some (r || s) := by
  cases r with
  | true => exact kitAny_cons (kit_ty h) (fun z => nomatch z) (fun _ => rfl)
  | false => 
    refine kitAny_cons (kit_ty h) (fun _ => ?_) (fun z => nomatch z)
    cases s with
    | true => exact kitAny_cons (kit_ty k) (fun z => nomatch z) (fun _ => rfl)
    | false => exact kitAny_cons (kit_ty k) (fun _ => kitAny_nil) (fun z => nomatch z)
theorem kit3 {K : PySem.W.Frag} {a b c d : String} {r s t : Bool} (h : kitB a b = some r) (k : kitB a c = some s) (m : kitB a d = some t) : PySem.W.kitAny K (.type a) [.type b, .type c, .type d] = some (r || (s || t)) := by
  cases r with
  | true => exact kitAny_cons (kit_ty h) (fun z => nomatch z) (fun _ => rfl)
  | false =>
    have e := kit2 (K := K) k m
    rw [Bool.false_or]
    exact kitAny_cons (kit_ty h) (fun _ => e) (fun z => nomatch z)
theorem dpGet {H : Hp} : ∀ {vs : List V} {ds : List PyData} {i : Nat} {v : V}, DpAll K H vs ds → vs[i]? = some v → ∃ d, ds[i]? = some d ∧ Dp K H v d
  | _, _, 0, v, .cons a _, h => ⟨_, rfl, by rw [← Option.some.inj h]; exact a⟩
  | _, _, i + 1, v, .cons _ b, h => dpGet (i := i) b h
  | _, _, i, v, .nil, h => by simp at h
theorem dpLen {H : Hp} : ∀ {vs : List V} {ds : List PyData}, DpAll K H vs ds → vs.length = ds.length
  | _, _, .nil => rfl
  | _, _, .cons _ b => congrArg (· + 1) (dpLen b)
theorem walk_zipT {a b : Addr} {xs ys : List V} {n : Nat} (hn : n = min xs.length ys.length) : Walk (RZ.ItzT K a b) n (fun H => SqT K H a xs ∧ SqT K H b ys) (YPair (fun i => xs[i]?) (fun i => ys[i]?)) := by
  subst hn
  refine ⟨fun i H hi q => ⟨xs, ys, _, _, q.1, q.2, List.getElem?_eq_getElem (by omega), List.getElem?_eq_getElem (by omega)⟩, fun H q => ⟨xs, ys, q.1, q.2, by omega⟩, fun i H v H' hi q y => ?_⟩
  obtain ⟨T, x, z, e1, e2, e3, e4, e5⟩ := y
  exact ⟨T, x, z, e1, e2, e3, e4 _ q.1, e5 _ q.2⟩
mutual
/-- no list in it has more than a thousand things -/
def wid : PyData → Bool
  | .list xs | .tuple xs => decide (xs.length ≤ 1000) && widAll xs
  | _ => true
def widAll : List PyData → Bool
  | [] => true
  | x :: xs => wid x && widAll xs
end
theorem widAll_mem : ∀ {ds : List PyData} {d : PyData}, widAll ds = true → d ∈ ds → wid d = true
  | x :: xs, d, h, m => by
    simp only [widAll, Bool.and_eq_true] at h
    rcases List.mem_cons.mp m with e | m
    · rw [e]; exact h.1
    · exact widAll_mem h.2 m
theorem wid_parts {xs : List PyData} (h : wid (.list xs) = true ∨ wid (.tuple xs) = true) : xs.length ≤ 1000 ∧ widAll xs = true := by
  simp only [wid, Bool.and_eq_true, decide_eq_true_eq, or_self] at h
  exact h
/-- the promise of «same» for data of a depth below n -/
def spSame (K : PySem.W.Frag) (n : Nat) : Sp := fun vs H Q _ => ∃ (x y : V) (d : PyData), vs = [x, y] ∧ Dp K H x d ∧ Dp K H y d ∧ d.depth < n ∧ wid d = true ∧ ∀ H', Same H H' → Q (.bl true) H'
theorem no_fn {f : Addr} {fd : FuncData} {ps : List Str} {k : Nat} {sp : Sp} (h : ∀ vs H Q E, ¬ sp vs H Q E) : FnOk P w K mg base CX0 k f fd ps sp :=
  ⟨fun vs H Q E z => (h vs H Q E z).elim, fun _ _ _ _ _ _ _ _ _ _ _ _ _ z => (h _ _ _ _ z).elim⟩
theorem same_loop {J : It} {N n : Nat} {G : Hp → Prop} {xs ys : List V} {ds : List PyData} {H : Hp} {D : Addr} {x0 y0 : V} {Qd : Hp → Prop} (wk : Walk J N G (YPair (fun i => xs[i]?) (fun i => ys[i]?))) (hx : DpAll K H xs ds) (hy : DpAll K H ys ds)
    (hd : PyData.depthAll ds < n) (hw : widAll ds = true) (hN : N ≤ 1000) (hG : ∀ H', Same H H' → G H') (hD : H D = none) (hq : ∀ H', Same H H' → H' D = some (.lst ((List.replicate N true).map V.bl)) → Qd H') :
    ∃ W : Nat → Nat → Hp → Prop, (∃ m, W 0 m (upd H D (.lst []))) ∧ ∀ i m H, W i m H →
      (J.stop i H ∧ Qd H) ∨ (J.go i H ∧ ∃ Nx : Hp → Prop, (∀ H', Nx H' → ∃ m', m' < m ∧ W (i + 1) m' H') ∧ ∀ x H', J.yld i H x H' →
        gTup K 2 (gCons (gName 2) (gCons (gName 3) gNil)) x (wipe [some x0, some y0, none, none] [2, 3]) H' fun σ2 H2 => wipe σ2 [2, 3] = wipe [some x0, some y0, none, none] [2, 3] ∧ tYes σ2 H2 fun b H3 =>
        if b = true then (tCall (spSame K n) [] E0 (tCons (tVar 2) (tCons (tVar 3) tNil))) σ2 H3 fun y H4 => ∃ acc, H4 D = some (.lst acc) ∧ acc.length < sizeLine ∧ Nx (upd H4 D (.lst (acc ++ [y]))) else Nx H3) := by
  have same_upd : ∀ {H' : Hp} {o : HO}, Same H H' → Same H (upd H' D o) := fun s b u e => by
    rw [upd_ne (ne_of_none e hD)]; exact s _ _ e
  refine lc_it wk (fun i H' => Same H H' ∧ H' D = some (.lst ((List.replicate i true).map V.bl))) ⟨Same.new hD, upd_same⟩ (fun i H' _ p => hG H' p.1) ?_ (fun H' p => hq H' p.1 p.2)
  rintro i v H' H'' hi ⟨s1, hD'⟩ ⟨T, x, y, rfl, hT, rfl, hx', hy'⟩
  obtain ⟨d, hd1, dx⟩ := dpGet hx hx'
  obtain ⟨d', hd2, dy⟩ := dpGet hy hy'
  rw [hd1] at hd2
  cases hd2
  have hdep : d.depth < n := Nat.lt_of_le_of_lt (PyData.depth_le_depthAll ds d (List.mem_of_getElem? hd1)) hd
  have s2 := s1.trans (Same.new (o := .tup [x, y]) hT)
  refine ⟨T, [x, y], rfl, SqT.of upd_same, rfl, _, _, rfl, _, _, rfl, rfl, rfl, ?_⟩
  refine ⟨_, rfl, _, rfl, x, y, d, rfl, dpSame s2 dx, dpSame s2 dy, hdep, widAll_mem hw (List.mem_of_getElem? hd1), fun H3 s3 => ?_⟩
  have hD3 : H3 D = some (.lst ((List.replicate i true).map V.bl)) := s3 _ _ (Same.new hT _ _ hD')
  refine ⟨_, hD3, by rw [List.length_map, List.length_replicate]; exact Nat.lt_of_lt_of_le hi (Nat.le_trans hN (by decide)), same_upd (s2.trans s3), ?_⟩
  rw [upd_same, List.replicate_succ', List.map_append]
  rfl
theorem all_true (n : Nat) : (List.replicate n true).all id = true := by
  induction n with
  | zero => rfl
  | succ n ih => rw [List.replicate_succ, List.all_cons, ih]; rfl
theorem ok_same (T : Txt K mg A) : ∀ n : Nat, FnOk P w K mg base CX0 n A.a__law_same A.d__law_same P__law_same (spSame K n)
  | 0 => no_fn fun vs H Q E ⟨_, _, _, _, _, _, h, _⟩ => absurd h (Nat.not_lt_zero _)
  | n + 1 => by
    have G__law_same : FnOk P w K mg base CX0 n A.a__law_same A.d__law_same P__law_same (spSame K n) := ok_same T n
    refine T.f__law_same.ok sc__law_same (fun vs H Q E h => ?_) (fun cdv A' outer s H vs Q E hr h => ?_)
    · obtain ⟨x, y, d, rfl, _⟩ := h
      rfl
    · obtain ⟨x, y, d, rfl, hx, hy, hd, hw, k⟩ := h
      refine ⟨_, (pss_cons (ps_if (pt_val (pe_callB call_isiT (by rfl) T.isinstance (by decide +kernel) (pa_cons (pv 1) (pa_cons (pe_tup (pa_cons (pe_bltn (v := .ty "list") (u := .type "list") (by rfl) T.list (by decide +kernel) rfl) (pa_cons (pe_bltn (v := .ty "tuple") (u := .type "tuple") (by rfl) T.tuple (by decide +kernel) rfl) pa_nil))) pa_nil))))
 (pss_cons (ps_if (PW.pt (pw_or (pt_cmpR op_ne (pe_callB call_isi (by rfl) T.isinstance (by decide +kernel) (pa_cons (pv 0) (pa_cons (pe_bltn (v := .ty "list") (u := .type "list") (by rfl) T.list (by decide +kernel) rfl) pa_nil))) (pe_callB call_isi (by rfl) T.isinstance (by decide +kernel) (pa_cons (pv 1) (pa_cons (pe_bltn (v := .ty "list") (u := .type "list") (by rfl) T.list (by decide +kernel) rfl) pa_nil))) (nomark _)) (pw_or1 (pt_cmpR op_ne (pe_callB call_isi (by rfl) T.isinstance (by decide +kernel) (pa_cons (pv 0) (pa_cons (pe_bltn (v := .ty "tuple") (u := .type "tuple") (by rfl) T.tuple (by decide +kernel) rfl) pa_nil))) (pe_callB call_isi (by rfl) T.isinstance (by decide +kernel) (pa_cons (pv 1) (pa_cons (pe_bltn (v := .ty "tuple") (u := .type "tuple") (by rfl) T.tuple (by decide +kernel) rfl) pa_nil))) (nomark _)))))
 (pss_one (ps_ret pe_bl))
 pss_nil)
 (pss_one (ps_ret (pe_and (pe_cmpR op_eq (pe_callB call_len_seq (by rfl) T.len PySem.boot_len (pa_cons (pv 0) pa_nil)) (pe_callB call_len_seq (by rfl) T.len PySem.boot_len (pa_cons (pv 1) pa_nil)) (nomark _)) (pe_one (pe_callB (cr_all rfl) (by rfl) T.all (by decide +kernel) (pa_cons (pe_lc (own := [("_law_x", 2), ("_law_y", 3)]) (g := gTup K 2 (gCons (gName 2) (gCons (gName 3) gNil))) (by rfl) sc__law_same.nd (RZ.pi_zipA (by rfl) T.zip (pa_cons (pv 0) (pa_cons (pv 1) pa_nil))) (blkOk_by (N := N__law_same) (sc := defScope s__law_same) (by decide +kernel)) (fun _ _ _ _ _ => (pg_tup rfl (pgs_cons (pg_name (i := 2) sc__law_same.nd rfl (Or.inl rfl)) (pgs_cons (pg_name (i := 3) sc__law_same.nd rfl (Or.inl rfl)) pgs_nil)))) (fun _ _ _ _ _ => pts_nil) (fun _ _ _ _ _ => (pe_call G__law_same (hr.mono (by omega)) (by rfl) T.g__law_same T.f__law_same.kp T.b__law_same .nil pass0 (pa_cons (pv 2) (pa_cons (pv 3) pa_nil))))) pa_nil)))))))
 pss_nil)
 (pss_cons (ps_if (pt_val (pe_callB call_isi (by rfl) T.isinstance (by decide +kernel) (pa_cons (pv 1) (pa_cons (pe_bltn (v := .ty "int") (u := .type "int") (by rfl) T.int (by decide +kernel) rfl) pa_nil))))
 (pss_one (ps_ret (pe_and (pe_callB call_isi (by rfl) T.isinstance (by decide +kernel) (pa_cons (pv 0) (pa_cons (pe_bltn (v := .ty "int") (u := .type "int") (by rfl) T.int (by decide +kernel) rfl) pa_nil))) (pe_and (pe_cmpR op_eq (pe_callB call_isi (by rfl) T.isinstance (by decide +kernel) (pa_cons (pv 0) (pa_cons (pe_bltn (v := .ty "bool") (u := .type "bool") (by rfl) T.bool (by decide +kernel) rfl) pa_nil))) (pe_callB call_isi (by rfl) T.isinstance (by decide +kernel) (pa_cons (pv 1) (pa_cons (pe_bltn (v := .ty "bool") (u := .type "bool") (by rfl) T.bool (by decide +kernel) rfl) pa_nil))) (nomark _)) (pe_one (pe_cmpR op_eq (pv 0) (pv 1) (nomark _)))))))
 pss_nil)
 (pss_one (ps_ret (pe_and (pe_cmpR op_isBl (pe_callB call_isiT (by rfl) T.isinstance (by decide +kernel) (pa_cons (pv 0) (pa_cons (pe_tup (pa_cons (pe_bltn (v := .ty "int") (u := .type "int") (by rfl) T.int (by decide +kernel) rfl) (pa_cons (pe_bltn (v := .ty "list") (u := .type "list") (by rfl) T.list (by decide +kernel) rfl) (pa_cons (pe_bltn (v := .ty "tuple") (u := .type "tuple") (by rfl) T.tuple (by decide +kernel) rfl) pa_nil)))) pa_nil))) pe_bl (nomark _)) (pe_one (pe_cmpR op_eq (pv 0) (pv 1) (nomark _)))))))), ?_⟩
      -- isinstance(due, (list, tuple))
      refine ⟨_, rfl, by show 2 ≤ sizeLine; decide, fun p hp => ?_⟩
      have s1 : Same H (upd H p (.tup [.ty "list", .ty "tuple"])) := Same.new hp
      have hx1 := dpSame s1 hx
      have hy1 := dpSame s1 hy
      cases hx with
      | non =>
        cases hy
        refine ⟨_, p, _, _, _, false, rfl, upd_same, .cons (.ty _) (.cons (.ty _) .nil), .base .non, kit2 (a := "NoneType") (b := "list") (c := "tuple") (r := false) (s := false) (by decide +kernel) (by decide +kernel), _, rfl, iteF ?_⟩
        refine ⟨_, rfl, _, _, .type "NoneType", _, false, rfl, .ty _, .base .non, kit_ty (by decide +kernel), _, rfl, iteF ?_⟩
        refine ⟨_, rfl, by show 3 ≤ sizeLine; decide, fun q hq => ⟨_, q, _, _, _, false, rfl, upd_same, .cons (.ty _) (.cons (.ty _) (.cons (.ty _) .nil)), .base .non, kit3 (a := "NoneType") (b := "int") (c := "list") (d := "tuple") (r := false) (s := false) (t := false) (by decide +kernel) (by decide +kernel) (by decide +kernel), _, _, rfl, rfl, _, rfl, iteT ⟨_, rfl, _, rfl, rfl, ?_⟩⟩⟩
        exact k _ (s1.trans (Same.new hq))
      | str z =>
        cases hy
        refine ⟨_, p, _, _, _, false, rfl, upd_same, .cons (.ty _) (.cons (.ty _) .nil), .base (.str _), kit2 (a := "str") (b := "list") (c := "tuple") (r := false) (s := false) (by decide +kernel) (by decide +kernel), _, rfl, iteF ?_⟩
        refine ⟨_, rfl, _, _, .type "str", _, false, rfl, .ty _, .base (.str _), kit_ty (by decide +kernel), _, rfl, iteF ?_⟩
        refine ⟨_, rfl, by show 3 ≤ sizeLine; decide, fun q hq => ⟨_, q, _, _, _, false, rfl, upd_same, .cons (.ty _) (.cons (.ty _) (.cons (.ty _) .nil)), .base (.str _), kit3 (a := "str") (b := "int") (c := "list") (d := "tuple") (r := false) (s := false) (t := false) (by decide +kernel) (by decide +kernel) (by decide +kernel), _, _, rfl, rfl, _, rfl, iteT ⟨_, rfl, _, rfl, rfl, ?_⟩⟩⟩
        rw [decide_eq_true rfl]
        exact k _ (s1.trans (Same.new hq))
      | int i =>
        cases hy
        refine ⟨_, p, _, _, _, false, rfl, upd_same, .cons (.ty _) (.cons (.ty _) .nil), .base (.int _), kit2 (a := "int") (b := "list") (c := "tuple") (r := false) (s := false) (by decide +kernel) (by decide +kernel), _, rfl, iteF ?_⟩
        refine ⟨_, rfl, _, _, .type "int", _, true, rfl, .ty _, .base (.int _), kit_ty (by decide +kernel), _, rfl, iteT ?_⟩
        refine ⟨_, rfl, _, _, .type "int", _, true, rfl, .ty _, .base (.int _), kit_ty (by decide +kernel), _, rfl, iteT ?_⟩
        refine ⟨_, rfl, _, _, .type "int", _, false, rfl, .ty _, .base (.int _), kit_ty (by decide +kernel), _, rfl, _, _, .type "int", _, false, rfl, .ty _, .base (.int _), kit_ty (by decide +kernel), rfl, _, rfl, iteT ⟨_, rfl, _, rfl, rfl, ?_⟩⟩
        rw [decide_eq_true rfl]
        exact k _ s1
      | bl b =>
        cases hy
        refine ⟨_, p, _, _, _, false, rfl, upd_same, .cons (.ty _) (.cons (.ty _) .nil), .base (.bl _), kit2 (a := "bool") (b := "list") (c := "tuple") (r := false) (s := false) (by decide +kernel) (by decide +kernel), _, rfl, iteF ?_⟩
        refine ⟨_, rfl, _, _, .type "bool", _, true, rfl, .ty _, .base (.bl _), kit_ty (by decide +kernel), _, rfl, iteT ?_⟩
        refine ⟨_, rfl, _, _, .type "bool", _, true, rfl, .ty _, .base (.bl _), kit_ty (by decide +kernel), _, rfl, iteT ?_⟩
        refine ⟨_, rfl, _, _, .type "bool", _, true, rfl, .ty _, .base (.bl _), kit_ty (by decide +kernel), _, rfl, _, _, .type "bool", _, true, rfl, .ty _, .base (.bl _), kit_ty (by decide +kernel), rfl, _, rfl, iteT ⟨_, rfl, _, rfl, rfl, ?_⟩⟩
        rw [decide_eq_true rfl]
        exact k _ s1
      | lst hL hA =>
        cases hy with
        | lst hL2 hA2 =>
          obtain ⟨w1, w2⟩ := wid_parts (.inl hw)
          have l1 := dpLen hA
          have l2 := dpLen hA2
          have t1 := tyL (sqUp hL s1)
          have t2 := tyL (sqUp hL2 s1)
          refine ⟨_, p, _, _, _, true, rfl, upd_same, .cons (.ty _) (.cons (.ty _) .nil), t2, kit2 (a := "list") (b := "list") (c := "tuple") (r := true) (s := false) (by decide +kernel) (by decide +kernel), _, rfl, iteT ?_⟩
          refine ⟨_, rfl, _, _, .type "list", _, true, rfl, .ty _, t1, kit_ty (by decide +kernel), _, rfl, _, _, .type "list", _, true, rfl, .ty _, t2, kit_ty (by decide +kernel), rfl, _, rfl, iteF ?_⟩
          refine ⟨_, rfl, _, _, .type "list", _, false, rfl, .ty _, t1, kit_ty (by decide +kernel), _, rfl, _, _, .type "list", _, false, rfl, .ty _, t2, kit_ty (by decide +kernel), rfl, _, rfl, iteF ?_⟩
          refine ⟨_, rfl, _, _, rfl, .inl (sqUp hL s1), _, rfl, _, _, rfl, .inl (sqUp hL2 s1), rfl, true, ?_, iteT ?_⟩
          · rw [decide_eq_true (by rw [l1, l2])]
          · refine ⟨_, rfl, _, rfl, _, _, _, _, rfl, .inl ⟨sqUp hL s1, sqUp hL2 s1, fun D hD => same_loop (walk_zip rfl) (dpAllSame s1 hA) (dpAllSame s1 hA2) (by simp only [PyData.depth] at hd; omega) w2 (by omega) (fun H' s' => ⟨sqUp hL (s1.trans s'), sqUp hL2 (s1.trans s')⟩) hD (fun H' s' hD' => ?_)⟩⟩
            refine ⟨D, _, rfl, SqL.of hD', ?_⟩
            rw [all_true]
            exact k _ (s1.trans s')
      | tup hL hA =>
        cases hy with
        | tup hL2 hA2 =>
          obtain ⟨w1, w2⟩ := wid_parts (.inr hw)
          have l1 := dpLen hA
          have l2 := dpLen hA2
          have t1 := tyT (stUp hL s1)
          have t2 := tyT (stUp hL2 s1)
          refine ⟨_, p, _, _, _, true, rfl, upd_same, .cons (.ty _) (.cons (.ty _) .nil), t2, kit2 (a := "tuple") (b := "list") (c := "tuple") (r := false) (s := true) (by decide +kernel) (by decide +kernel), _, rfl, iteT ?_⟩
          refine ⟨_, rfl, _, _, .type "tuple", _, false, rfl, .ty _, t1, kit_ty (by decide +kernel), _, rfl, _, _, .type "tuple", _, false, rfl, .ty _, t2, kit_ty (by decide +kernel), rfl, _, rfl, iteF ?_⟩
          refine ⟨_, rfl, _, _, .type "tuple", _, true, rfl, .ty _, t1, kit_ty (by decide +kernel), _, rfl, _, _, .type "tuple", _, true, rfl, .ty _, t2, kit_ty (by decide +kernel), rfl, _, rfl, iteF ?_⟩
          refine ⟨_, rfl, _, _, rfl, .inr (stUp hL s1), _, rfl, _, _, rfl, .inr (stUp hL2 s1), rfl, true, ?_, iteT ?_⟩
          · rw [decide_eq_true (by rw [l1, l2])]
          · refine ⟨_, rfl, _, rfl, _, _, _, _, rfl, .inr ⟨stUp hL s1, stUp hL2 s1, fun D hD => same_loop (walk_zipT rfl) (dpAllSame s1 hA) (dpAllSame s1 hA2) (by simp only [PyData.depth] at hd; omega) w2 (by omega) (fun H' s' => ⟨stUp hL (s1.trans s'), stUp hL2 (s1.trans s')⟩) hD (fun H' s' hD' => ?_)⟩⟩
            refine ⟨D, _, rfl, SqL.of hD', ?_⟩
            rw [all_true]
            exact k _ (s1.trans s')
end
end K5
set_option Elab.async false
set_option linter.all false
set_option maxRecDepth 100000
set_option maxHeartbeats 4000000
namespace K5
open PySem L2
local macro_rules | `(tactic| walk_at "rd1") => `(tactic| first
  | refine ⟨_, _, rfl, rfl, ?_⟩
  | refine ⟨_, _, _, _, rfl, rfl, SqL.of (by assumption), rfl, ?_⟩
  | refine ⟨_, _, _, _, rfl, rfl, (by assumption), rfl, ?_⟩
  | refine .inl ⟨_, rfl, ?_⟩
  | refine ⟨_, rfl, ?_⟩
  | refine ⟨(by unfold CMul; omega), ?_⟩
  | refine ⟨(by unfold CPow; omega), ?_⟩
  | refine ⟨(by (try dsimp only); omega), ?_⟩
  | refine ⟨(by unfold CDiv; omega), ?_⟩
  | fail "rd1")
local macro_rules | `(tactic| walk_at "rd") => `(tactic| repeat' (walk_at "rd1"))
section
variable {P : Program} {w : World} {K : PySem.W.Frag} {mg : Str → Option Value} {base : Heap} {A : Ad}
def slt (x y : Str) : Prop := x.cps.toList < y.cps.toList
instance (x y : Str) : Decidable (slt x y) := inferInstanceAs (Decidable (x.cps.toList < y.cps.toList))
def sle (x y : Str) : Prop := ¬ slt y x
instance (x y : Str) : Decidable (sle x y) := inferInstanceAs (Decidable (¬ slt y x))
theorem sle_trans {x y z : Str} (a : sle x y) (b : sle y z) : sle x z :=
  fun h => (List.not_lt.mpr (List.le_trans (List.not_lt.mp a) (List.not_lt.mp b))) h
theorem sle_of_lt {x y : Str} (h : slt x y) : sle x y := fun k => List.lt_asymm h k
def rk (t : Str) (acc : List Str) : Nat := (acc.filter fun x => decide (sle x t)).length
theorem rk_le (t : Str) (acc : List Str) : rk t acc ≤ acc.length := List.length_filter_le _ _
theorem rise_perm (t : Str) (acc : List Str) (k : Nat) : (acc.take k ++ [t] ++ acc.drop k).Perm (acc ++ [t]) := by
  have h : (acc.take k ++ [t] ++ acc.drop k).Perm (acc.take k ++ acc.drop k ++ [t]) := by
    rw [List.append_assoc, List.append_assoc]
    exact List.Perm.append_left _ List.perm_append_comm
  rwa [List.take_append_drop] at h
theorem rk_zero {t : Str} : ∀ {acc : List Str}, (∀ x ∈ acc, slt t x) → rk t acc = 0
  | [], _ => rfl
  | x :: r, h => by
    have hx : decide (sle x t) = false := decide_eq_false fun k => k (h x (List.mem_cons_self ..))
    have e := rk_zero fun y hy => h y (List.mem_cons_of_mem _ hy)
    simp only [rk, List.filter_cons, hx] at e ⊢
    exact e
theorem rise_sorted (t : Str) : ∀ {acc : List Str}, acc.Pairwise sle → (acc.take (rk t acc) ++ [t] ++ acc.drop (rk t acc)).Pairwise sle
  | [], _ => by simp [rk]
  | x :: r, h => by
    rw [List.pairwise_cons] at h
    by_cases hx : sle x t
    · have e : rk t (x :: r) = rk t r + 1 := by
        simp only [rk, List.filter_cons, decide_eq_true hx, if_true, List.length_cons]
      rw [e, List.take_succ_cons, List.drop_succ_cons, List.cons_append, List.cons_append, List.pairwise_cons]
      refine ⟨fun y hy => ?_, rise_sorted t h.2⟩
      rcases List.mem_append.mp hy with hy | hy
      · rcases List.mem_append.mp hy with hy | hy
        · exact h.1 y (List.mem_of_mem_take hy)
        · rw [List.mem_singleton.mp hy]; exact hx
      · exact h.1 y (List.mem_of_mem_drop hy)
    · have lt : slt t x := Decidable.byContradiction fun k => hx k
      have e : rk t (x :: r) = 0 := rk_zero fun y hy => by
        rcases List.mem_cons.mp hy with q | q
        · rw [q]; exact lt
        · have := h.1 y q
          exact Decidable.byContradiction fun k => (sle_trans this k) lt
      rw [e, List.take_zero, List.drop_zero, List.nil_append, List.singleton_append, List.pairwise_cons]
      refine ⟨fun y hy => ?_, List.pairwise_cons.mpr h⟩
      rcases List.mem_cons.mp hy with q | q
      · rw [q]; exact sle_of_lt lt
      · exact sle_trans (sle_of_lt lt) (h.1 y q)
theorem str_at {ns : List Str} {i : Nat} {x : V} (h : (ns.map V.str)[i]? = some x) : ∃ hi : i < ns.length, x = V.str ns[i] := by
  have hi : i < ns.length := by
    have := (List.getElem?_eq_some_iff.mp h).1
    rwa [List.length_map] at this
  refine ⟨hi, ?_⟩
  rw [List.getElem?_map, List.getElem?_eq_getElem hi] at h
  exact (Option.some.inj h).symm
end
end K5
set_option Elab.async false
set_option linter.all false
set_option maxRecDepth 100000
set_option maxHeartbeats 4000000
namespace K5
open PySem L2
local macro_rules | `(tactic| walk_at "rd1") => `(tactic| first
  | refine ⟨_, _, rfl, rfl, ?_⟩
  | refine ⟨_, _, _, _, rfl, rfl, SqL.of (by assumption), rfl, ?_⟩
  | refine ⟨_, _, _, _, rfl, rfl, (by assumption), rfl, ?_⟩
  | refine .inl ⟨_, rfl, ?_⟩
  | refine ⟨_, rfl, ?_⟩
  | refine ⟨(by unfold CMul; omega), ?_⟩
  | refine ⟨(by unfold CPow; omega), ?_⟩
  | refine ⟨(by (try dsimp only); omega), ?_⟩
  | refine ⟨(by unfold CDiv; omega), ?_⟩
  | fail "rd1")
local macro_rules | `(tactic| walk_at "rd") => `(tactic| repeat' (walk_at "rd1"))
section
variable {P : Program} {w : World} {K : PySem.W.Frag} {mg : Str → Option Value} {base : Heap} {A : Ad}
theorem put_new : ∀ (acc : List (Key × V)) (k : Key) (v : V), k ∉ acc.map (·.1) → putK acc k v = acc ++ [(k, v)] := fun acc k v h => by
  unfold putK
  have e : (acc.any fun kv => decide (kv.1 = k)) = false := by
    rw [List.any_eq_false]
    intro p hp q
    exact h (List.mem_map.mpr ⟨p, hp, of_decide_eq_true q⟩)
  rw [e]
  rfl
/-- what is no tuple -/
def NoTup (u : HO) : Prop := (∀ zs, u ≠ .tup zs) ∧ ∀ o zs, u ≠ .frz o (.tup zs)
theorem tupEr {H : Hp} {D a : Addr} {u : HO} {xs : List V} (hD : H D = some u) (hu : NoTup u) (h : SqT K H a xs) : SqT K (er H D) a xs := by
  rcases h with (h | ⟨o, h⟩) | h
  · exact .inl (.inl (er_of (fun e => by rw [e, hD] at h; exact hu.1 _ (Option.some.inj h)) h))
  · exact .inl (.inr ⟨o, er_of (fun e => by rw [e, hD] at h; exact hu.2 _ _ (Option.some.inj h)) h⟩)
  · exact .inr h
theorem tupSet {E : Hp} {p a : Addr} {u o : HO} {xs : List V} (hp : E p = some u) (hu : NoTup u) (h : SqT K E a xs) : SqT K (upd E p o) a xs :=
  stUp (tupEr hp hu h) fun b w e => by rw [upd_ne (er_some e).1]; exact (er_some e).2
theorem noTup_dK (kvs : List (Key × V)) : NoTup (.dK kvs) := ⟨fun _ z => (nomatch z), fun _ _ z => (nomatch z)⟩
theorem not_in_take {ys : List Str} (h : ys.Nodup) {i : Nat} (hi : i < ys.length) : ys[i] ∉ ys.take i := by
  have e : ys.take (i + 1) = ys.take i ++ [ys[i]] := by rw [List.take_succ, List.getElem?_eq_getElem hi]; rfl
  have n : (ys.take i ++ [ys[i]]).Nodup := by rw [← e]; exact h.sublist (List.take_sublist _ _)
  rw [List.nodup_append] at n
  exact fun m => n.2.2 _ m _ (List.mem_singleton.mpr rfl) rfl
end
end K5
set_option Elab.async false
set_option linter.all false
set_option maxRecDepth 100000
set_option maxHeartbeats 4000000
namespace K5
open PySem L2
local macro_rules | `(tactic| walk_at "rd1") => `(tactic| first
  | refine ⟨_, _, rfl, rfl, ?_⟩
  | refine ⟨_, _, _, _, rfl, rfl, SqL.of (by assumption), rfl, ?_⟩
  | refine ⟨_, _, _, _, rfl, rfl, (by assumption), rfl, ?_⟩
  | refine .inl ⟨_, rfl, ?_⟩
  | refine ⟨_, rfl, ?_⟩
  | refine ⟨(by unfold CMul; omega), ?_⟩
  | refine ⟨(by unfold CPow; omega), ?_⟩
  | refine ⟨(by (try dsimp only); omega), ?_⟩
  | refine ⟨(by unfold CDiv; omega), ?_⟩
  | fail "rd1")
local macro_rules | `(tactic| walk_at "rd") => `(tactic| repeat' (walk_at "rd1"))
section
variable {P : Program} {w : World} {K : PySem.W.Frag} {mg : Str → Option Value} {base : Heap} {A : Ad}
theorem noTup_lst (xs : List V) : NoTup (.lst xs) := ⟨fun _ z => (nomatch z), fun _ _ z => (nomatch z)⟩
end
end K5
set_option Elab.async false
set_option linter.all false
set_option maxRecDepth 100000
set_option maxHeartbeats 4000000
namespace K5
open PySem L2
local macro_rules | `(tactic| walk_at "rd1") => `(tactic| first
  | refine ⟨_, _, rfl, rfl, ?_⟩
  | refine ⟨_, _, _, _, rfl, rfl, SqL.of (by assumption), rfl, ?_⟩
  | refine ⟨_, _, _, _, rfl, rfl, (by assumption), rfl, ?_⟩
  | refine .inl ⟨_, rfl, ?_⟩
  | refine ⟨_, rfl, ?_⟩
  | refine ⟨(by unfold CMul; omega), ?_⟩
  | refine ⟨(by unfold CPow; omega), ?_⟩
  | refine ⟨(by (try dsimp only); omega), ?_⟩
  | refine ⟨(by unfold CDiv; omega), ?_⟩
  | fail "rd1")
local macro_rules | `(tactic| walk_at "rd") => `(tactic| repeat' (walk_at "rd1"))
section
variable {P : Program} {w : World} {K : PySem.W.Frag} {mg : Str → Option Value} {base : Heap} {A : Ad}
def letters : Str := "abcdefghijklmnopqrstuvwxyz"
structure Nm (s : Str) : Prop where
  noclock : s ≠ "clock"
  pos : 1 ≤ s.length
  most : s.length ≤ 8
  low : ∀ c ∈ s.cps.toList, c ∈ letters.cps.toList
theorem nm_dec {xs : List Str} (h : (xs.all fun s => (decide (s ≠ "clock") && (decide (1 ≤ s.length) && (decide (s.length ≤ 8) && s.cps.toList.all fun c => decide (c ∈ letters.cps.toList))))) = true) : ∀ s ∈ xs, Nm s := by
  intro s hs
  have := List.all_eq_true.mp h s hs
  simp only [Bool.and_eq_true, decide_eq_true_eq, List.all_eq_true] at this
  exact ⟨this.1, this.2.1, this.2.2.1, this.2.2.2⟩
theorem pool_nm : ∀ s ∈ pool, Nm s := nm_dec (by decide +kernel)
def spIsName : Sp := fun vs H Q _ => ∃ (s : Str), vs = [.str s] ∧ Nm s ∧ ∀ H', Same H H' → Q (.bl true) H'
theorem ok_isname (T : Txt K mg A) : FnOk P w K mg base CX0 1 A.a_is_name A.d_is_name P_is_name spIsName := by
  refine T.f_is_name.ok sc_is_name (fun vs H Q E h => ?_) (fun cdv A' outer s H vs Q E hr h => ?_)
  · obtain ⟨s, rfl, _⟩ := h
    rfl
  · obtain ⟨z, rfl, N, k⟩ := h
    refine ⟨_, (pss_cons (ps_if (PW.pt (pw_or (pt_not (pt_val (pe_callB call_isi (by rfl) T.isinstance (by decide +kernel) (pa_cons (pv 0) (pa_cons (pe_bltn (v := .ty "str") (u := .type "str") (by rfl) T.str (by decide +kernel) rfl) pa_nil))))) (pw_or1 (pt_cmpR op_eq (pv 0) (pe_glob (v := .str "clock") (by rfl) T.g_CLOCK.choose_spec ⟨_, rfl⟩) (nomark _)))))
 (pss_one (ps_ret pe_bl))
 pss_nil)
 (pss_one (ps_ret (pe_and (pe_chain op_le op_le pe_int (pe_callB call_len_str (by rfl) T.len PySem.boot_len (pa_cons (pv 0) pa_nil)) (pe_glob (v := .int 8) (by rfl) T.g_LONGEST_NAME.choose_spec ⟨_, rfl⟩)) (pe_one (pe_callB (cr_all rfl) (by rfl) T.all (by decide +kernel) (pa_cons (pe_lc (own := [("sign", 1)]) (g := gName 1) (by rfl) sc_is_name.nd (pi_str (pv 0)) (blkOk_by (N := N_is_name) (sc := defScope s_is_name) (by decide +kernel)) (fun _ _ _ _ _ => pg_name (i := 1) sc_is_name.nd rfl (Or.inl rfl)) (fun _ _ _ _ _ => pts_nil) (fun _ _ _ _ _ => (pe_cmpR op_in_sign (pv 1) (pe_glob (v := .str "abcdefghijklmnopqrstuvwxyz") (by rfl) T.g_LETTERS.choose_spec ⟨_, rfl⟩) (by rfl)))) pa_nil))))))), ?_⟩
    refine ⟨_, rfl, _, _, .type "str", _, true, rfl, .ty _, .base (.str _), kit_ty (by decide +kernel), _, rfl, iteF ?_⟩
    refine ⟨_, rfl, rfl, _, rfl, ite2 (fun q => absurd (of_decide_eq_true q) (fun q => N.noclock (V.str.inj q))) (fun _ => ?_)⟩
    have l8 := N.most
    have l1 := N.pos
    have hsz : z.length ≤ sizeLine := Nat.le_trans l8 (by decide)
    refine ⟨_, rfl, z, rfl, hsz, _, _, rfl, rfl, _, rfl, ite2 (fun _ => ?_) (fun q => (q (decide_eq_true (by omega))).elim)⟩
    refine ⟨_, _, rfl, rfl, _, rfl, ite2 (fun _ => ?_) (fun q => (q (decide_eq_true (by omega))).elim)⟩
    refine ⟨_, rfl, z, rfl, fun D hD => lc_it walk_str (fun i H' => Same H H' ∧ H' D = some (.lst ((List.replicate i true).map V.bl))) ⟨Same.new hD, upd_same⟩ (fun _ _ _ _ => trivial) ?_ (fun H' q => ?_)⟩
    · rintro i x H' H'' hi ⟨s1, hD'⟩ ⟨rfl, c, hc, rfl⟩
      have hm : c ∈ z.cps.toList := by
        have := Array.mem_of_getElem? hc
        exact Array.mem_toList_iff.mpr this
      have e1 : decide (c ∈ letters.cps.toList) = true := decide_eq_true (N.low c hm)
      refine ⟨rfl, _, rfl, c, letters, rfl, rfl, _, hD', by rw [List.length_map, List.length_replicate]; exact Nat.lt_of_lt_of_le hi hsz, ?_, ?_⟩
      · exact fun b u e => by rw [upd_ne (ne_of_none e hD)]; exact s1 _ _ e
      · rw [upd_same, e1, List.replicate_succ', List.map_append]; rfl
    · refine ⟨D, _, rfl, SqL.of q.2, ?_⟩
      rw [all_true]
      exact k _ q.1
theorem rdUp {H H' : Hp} {d : Addr} {u : HO} (h : Rd H d u) (s : Same H H') : Rd H' d u := h.elim (fun q => .inl (s _ _ q)) (fun ⟨o, q⟩ => .inr ⟨o, s _ _ q⟩)
theorem valV_at : ∀ {kvs : List (Key × V)} {i : Nat} {k : Key} {v : V}, (kvs.map (·.1)).Nodup → kvs[i]? = some (k, v) → valV kvs k = some v
  | p :: r, 0, k, v, _, h => by
    have e : p = (k, v) := Option.some.inj h
    rw [valV_pos (by rw [e]), e]
  | p :: r, i + 1, k, v, hN, h => by
    have hr : r[i]? = some (k, v) := h
    rw [List.map_cons, List.nodup_cons] at hN
    rw [valV_neg (fun e => hN.1 (by rw [e]; exact List.mem_map.mpr ⟨(k, v), List.mem_of_getElem? hr, rfl⟩))]
    exact valV_at hN.2 hr
  | [], i, k, v, _, h => by simp at h
theorem fillD {J : It} {n : Nat} {G : Hp → Prop} {Y : Nat → Hp → V → Hp → Prop} (wk : Walk J n G Y) {g : TG} {tt : TT} {tk tv : TE} {vs : List Nat} {σ : St} {H1 : Hp} {D : Addr} {Qd : Hp → Prop} (I : Nat → Hp → Prop)
    (i0 : I 0 (upd H1 D (.dK []))) (iG : ∀ i H, i ≤ n → I i H → G H)
    (step : ∀ i x H H', i < n → I i H → Y i H x H' → g x (wipe σ vs) H' fun σ2 H2 => wipe σ2 vs = wipe σ vs ∧ tt σ2 H2 fun b H3 =>
      if b = true then tk σ2 H3 fun y H4 => tv σ2 H4 fun z H5 => ∃ kvs k, y = kV k ∧ H5 D = some (.dK kvs) ∧ kvs.length < sizeLine ∧ I (i + 1) (upd H5 D (.dK (putK kvs k z))) else I (i + 1) H3)
    (last : ∀ H, I n H → Qd H) :
    ∃ W : Nat → Nat → Hp → Prop, (∃ m, W 0 m (upd H1 D (.dK []))) ∧ ∀ i m H, W i m H →
      (J.stop i H ∧ Qd H) ∨ (J.go i H ∧ ∃ Nx : Hp → Prop, (∀ H', Nx H' → ∃ m', m' < m ∧ W (i + 1) m' H') ∧ ∀ x H', J.yld i H x H' → g x (wipe σ vs) H' fun σ2 H2 => wipe σ2 vs = wipe σ vs ∧ tt σ2 H2 fun b H3 =>
        if b = true then tk σ2 H3 fun y H4 => tv σ2 H4 fun z H5 => ∃ kvs k, y = kV k ∧ H5 D = some (.dK kvs) ∧ kvs.length < sizeLine ∧ Nx (upd H5 D (.dK (putK kvs k z))) else Nx H3) := by
  refine ⟨fun i m H => m + i = n ∧ I i H, ⟨n, rfl, i0⟩, fun i m H ⟨e, h⟩ => ?_⟩
  have g' := iG i H (by omega) h
  rcases Nat.lt_or_ge i n with lt | ge
  · exact .inr ⟨wk.goes i H lt g', I (i + 1), fun H' h' => ⟨m - 1, by omega, by omega, h'⟩, fun x H' y => step i x H H' lt h (wk.yields i H x H' lt g' y)⟩
  · obtain rfl : i = n := by omega
    exact .inl ⟨wk.stops H g', last H h⟩
def isI : PyData → Bool | .int _ => true | _ => false
def isL : PyData → Bool | .list _ => true | .tuple _ => true | _ => false
def spIsInt (K : PySem.W.Frag) : Sp := fun vs H Q _ => ∃ (x : V) (d : PyData), vs = [x] ∧ Dp K H x d ∧ Q (.bl (isI d)) H
def spIsList (K : PySem.W.Frag) : Sp := fun vs H Q _ => ∃ (x : V) (d : PyData), vs = [x] ∧ Dp K H x d ∧ ∀ H', Same H H' → Q (.bl (isL d)) H'
theorem ok_isint (T : Txt K mg A) : FnOk P w K mg base CX0 1 A.a_is_integer A.d_is_integer P_is_integer (spIsInt K) := by
  refine T.f_is_integer.ok sc_is_integer (fun vs H Q E h => ?_) (fun cdv A' outer s H vs Q E hr h => ?_)
  · obtain ⟨x, d, rfl, _⟩ := h
    rfl
  · obtain ⟨x, d, rfl, hx, k⟩ := h
    refine ⟨_, (pss_one (ps_ret (pe_and (pe_callB call_isi (by rfl) T.isinstance (by decide +kernel) (pa_cons (pv 0) (pa_cons (pe_bltn (v := .ty "int") (u := .type "int") (by rfl) T.int (by decide +kernel) rfl) pa_nil))) (pe_one (pe_not (pe_callB call_isi (by rfl) T.isinstance (by decide +kernel) (pa_cons (pv 0) (pa_cons (pe_bltn (v := .ty "bool") (u := .type "bool") (by rfl) T.bool (by decide +kernel) rfl) pa_nil)))))))), ?_⟩
    cases hx with
    | non => exact ⟨_, rfl, _, _, .type "NoneType", _, false, rfl, .ty _, .base .non, kit_ty (by decide +kernel), _, rfl, iteF k⟩
    | str z => exact ⟨_, rfl, _, _, .type "str", _, false, rfl, .ty _, .base (.str _), kit_ty (by decide +kernel), _, rfl, iteF k⟩
    | int i => exact ⟨_, rfl, _, _, .type "int", _, true, rfl, .ty _, .base (.int _), kit_ty (by decide +kernel), _, rfl, iteT ⟨_, rfl, _, _, .type "int", _, false, rfl, .ty _, .base (.int _), kit_ty (by decide +kernel), _, rfl, k⟩⟩
    | bl b => exact ⟨_, rfl, _, _, .type "bool", _, true, rfl, .ty _, .base (.bl _), kit_ty (by decide +kernel), _, rfl, iteT ⟨_, rfl, _, _, .type "bool", _, true, rfl, .ty _, .base (.bl _), kit_ty (by decide +kernel), _, rfl, k⟩⟩
    | lst h _ => exact ⟨_, rfl, _, _, .type "list", _, false, rfl, .ty _, tyL h, kit_ty (by decide +kernel), _, rfl, iteF k⟩
    | tup h _ => exact ⟨_, rfl, _, _, .type "tuple", _, false, rfl, .ty _, tyT h, kit_ty (by decide +kernel), _, rfl, iteF k⟩
theorem ok_islist (T : Txt K mg A) : FnOk P w K mg base CX0 1 A.a_is_list A.d_is_list P_is_list (spIsList K) := by
  refine T.f_is_list.ok sc_is_list (fun vs H Q E h => ?_) (fun cdv A' outer s H vs Q E hr h => ?_)
  · obtain ⟨x, d, rfl, _⟩ := h
    rfl
  · obtain ⟨x, d, rfl, hx, k⟩ := h
    refine ⟨_, (pss_one (ps_ret (pe_callB call_isiT (by rfl) T.isinstance (by decide +kernel) (pa_cons (pv 0) (pa_cons (pe_tup (pa_cons (pe_bltn (v := .ty "list") (u := .type "list") (by rfl) T.list (by decide +kernel) rfl) (pa_cons (pe_bltn (v := .ty "tuple") (u := .type "tuple") (by rfl) T.tuple (by decide +kernel) rfl) pa_nil))) pa_nil))))), ?_⟩
    refine ⟨_, rfl, by show 2 ≤ sizeLine; decide, fun p hp => ?_⟩
    have s1 : Same H (upd H p (.tup [.ty "list", .ty "tuple"])) := Same.new hp
    have k := k _ s1
    cases dpSame s1 hx with
    | non => exact ⟨_, p, _, _, _, false, rfl, upd_same, .cons (.ty _) (.cons (.ty _) .nil), .base .non, kit2 (a := "NoneType") (b := "list") (c := "tuple") (r := false) (s := false) (by decide +kernel) (by decide +kernel), k⟩
    | str z => exact ⟨_, p, _, _, _, false, rfl, upd_same, .cons (.ty _) (.cons (.ty _) .nil), .base (.str _), kit2 (a := "str") (b := "list") (c := "tuple") (r := false) (s := false) (by decide +kernel) (by decide +kernel), k⟩
    | int z => exact ⟨_, p, _, _, _, false, rfl, upd_same, .cons (.ty _) (.cons (.ty _) .nil), .base (.int _), kit2 (a := "int") (b := "list") (c := "tuple") (r := false) (s := false) (by decide +kernel) (by decide +kernel), k⟩
    | bl z => exact ⟨_, p, _, _, _, false, rfl, upd_same, .cons (.ty _) (.cons (.ty _) .nil), .base (.bl _), kit2 (a := "bool") (b := "list") (c := "tuple") (r := false) (s := false) (by decide +kernel) (by decide +kernel), k⟩
    | lst h _ => exact ⟨_, p, _, _, _, true, rfl, upd_same, .cons (.ty _) (.cons (.ty _) .nil), tyL h, kit2 (a := "list") (b := "list") (c := "tuple") (r := true) (s := false) (by decide +kernel) (by decide +kernel), k⟩
    | tup h _ => exact ⟨_, p, _, _, _, true, rfl, upd_same, .cons (.ty _) (.cons (.ty _) .nil), tyT h, kit2 (a := "tuple") (b := "list") (c := "tuple") (r := false) (s := true) (by decide +kernel) (by decide +kernel), k⟩
end
end K5
set_option Elab.async false
set_option linter.all false
set_option maxRecDepth 100000
set_option maxHeartbeats 4000000
namespace K5
open PySem L2
local macro_rules | `(tactic| walk_at "rd1") => `(tactic| first
  | refine ⟨_, _, rfl, rfl, ?_⟩
  | refine ⟨_, _, _, _, rfl, rfl, SqL.of (by assumption), rfl, ?_⟩
  | refine ⟨_, _, _, _, rfl, rfl, (by assumption), rfl, ?_⟩
  | refine .inl ⟨_, rfl, ?_⟩
  | refine ⟨_, rfl, ?_⟩
  | refine ⟨(by unfold CMul; omega), ?_⟩
  | refine ⟨(by unfold CPow; omega), ?_⟩
  | refine ⟨(by (try dsimp only); omega), ?_⟩
  | refine ⟨(by unfold CDiv; omega), ?_⟩
  | fail "rd1")
local macro_rules | `(tactic| walk_at "rd") => `(tactic| repeat' (walk_at "rd1"))
section
variable {P : Program} {w : World} {K : PySem.W.Frag} {mg : Str → Option Value} {base : Heap} {A : Ad}
def SqX (K : PySem.W.Frag) (H : Hp) (a : Addr) (xs : List V) : Prop := SqL K H a xs ∨ SqT K H a xs
theorem sxUp {H H' : Hp} {a : Addr} {xs : List V} (h : SqX K H a xs) (s : Same H H') : SqX K H' a xs := h.elim (fun q => .inl (sqUp q s)) (fun q => .inr (stUp q s))
theorem seq_or {H0 H : Hp} {t : Addr} {xs : List V} {j : Nat} {σ : St} {R : It → Hp → Prop} (h : SqX K H0 t xs) (s0 : Same H0 H) (hj : σ[j]? = some (some (.ref t))) (hR : ∀ J G, Walk J xs.length G (YAt xs) → (∀ H', Same H0 H' → G H') → R J H) :
    iList K (tVar j) σ H R ∨ iTup K (tVar j) σ H R :=
  h.elim (fun q => .inl ⟨_, hj, t, rfl, ⟨_, sqUp q s0⟩, hR _ _ walk_list fun H' s => sqUp q s⟩) (fun q => .inr ⟨_, hj, t, rfl, ⟨_, stUp q s0⟩, hR _ _ walk_tup fun H' s => stUp q s⟩)
theorem un2 {H : Hp} {a : Addr} {x y : V} {σ : St} {i j : Nat} {Q : St → Hp → Prop} (h : SqX K H a [x, y]) (q : Q ((σ.set i (some x)).set j (some y)) H) : gLst K 2 (gCons (gName i) (gCons (gName j) gNil)) (.ref a) σ H Q ∨ gTup K 2 (gCons (gName i) (gCons (gName j) gNil)) (.ref a) σ H Q :=
  h.elim (fun z => .inl ⟨a, _, rfl, z, rfl, _, _, rfl, _, _, rfl, rfl, q⟩) (fun z => .inr ⟨a, _, rfl, z, rfl, _, _, rfl, _, _, rfl, rfl, q⟩)
end
end K5
set_option Elab.async false
set_option linter.all false
set_option maxRecDepth 100000
set_option maxHeartbeats 4000000
namespace K5
open PySem L2
local macro_rules | `(tactic| walk_at "rd1") => `(tactic| first
  | refine ⟨_, _, rfl, rfl, ?_⟩
  | refine ⟨_, _, _, _, rfl, rfl, SqL.of (by assumption), rfl, ?_⟩
  | refine ⟨_, _, _, _, rfl, rfl, (by assumption), rfl, ?_⟩
  | refine .inl ⟨_, rfl, ?_⟩
  | refine ⟨_, rfl, ?_⟩
  | refine ⟨(by unfold CMul; omega), ?_⟩
  | refine ⟨(by unfold CPow; omega), ?_⟩
  | refine ⟨(by (try dsimp only); omega), ?_⟩
  | refine ⟨(by unfold CDiv; omega), ?_⟩
  | fail "rd1")
local macro_rules | `(tactic| walk_at "rd") => `(tactic| repeat' (walk_at "rd1"))
section
variable {P : Program} {w : World} {K : PySem.W.Frag} {mg : Str → Option Value} {base : Heap} {A : Ad}
def kvF (ns : List Str) (f : Str → V) : List (Key × V) := ns.map fun n => (.inr n, f n)
theorem kvF_keys (ns : List Str) (f : Str → V) : (kvF ns f).map (·.1) = ns.map Sum.inr := by simp [kvF]
theorem kvF_len (ns : List Str) (f : Str → V) : (kvF ns f).length = ns.length := by simp [kvF]
theorem inr_nd {ns : List Str} (h : ns.Nodup) : (ns.map (Sum.inr : Str → Key)).Nodup := List.pairwise_map.mpr (h.imp fun n e => n (Sum.inr.inj e))
theorem kvF_snoc (ns : List Str) (n : Str) (f : Str → V) : kvF (ns ++ [n]) f = kvF ns f ++ [(.inr n, f n)] := by simp [kvF]
theorem kvF_at {ns : List Str} {f : Str → V} {i : Nat} {k : Key} {v : V} (h : (kvF ns f)[i]? = some (k, v)) : ∃ hi : i < ns.length, k = .inr ns[i] ∧ v = f ns[i] := by
  have hi : i < ns.length := by
    have := (List.getElem?_eq_some_iff.mp h).1
    rwa [kvF_len] at this
  unfold kvF at h
  rw [List.getElem?_map, List.getElem?_eq_getElem hi] at h
  cases h
  exact ⟨hi, rfl, rfl⟩
theorem kvF_val {ns : List Str} {f : Str → V} {n : Str} (nd : ns.Nodup) (m : n ∈ ns) : valV (kvF ns f) (.inr n) = some (f n) := by
  obtain ⟨i, hi, e⟩ := List.getElem_of_mem m
  refine valV_at (i := i) (by rw [kvF_keys]; exact inr_nd nd) ?_
  unfold kvF
  rw [List.getElem?_map, List.getElem?_eq_getElem hi, e]; rfl
structure Pr2 (K : PySem.W.Frag) (H : Hp) (ns : List Str) (f g : Str → V) (kvs : List (Key × V)) : Prop where
  keys : kvs.map (·.1) = ns.map Sum.inr
  at_ : ∀ (i : Nat) (n : Str), ns[i]? = some n → ∃ a : Addr, kvs[i]? = some (.inr n, .ref a) ∧ SqT K H a [f n, g n]
theorem Pr2.up {H H' : Hp} {ns : List Str} {f g : Str → V} {kvs : List (Key × V)} (h : Pr2 K H ns f g kvs) (s : Same H H') : Pr2 K H' ns f g kvs :=
  ⟨h.keys, fun i n e => by obtain ⟨a, e1, e2⟩ := h.at_ i n e; exact ⟨a, e1, stUp e2 s⟩⟩
theorem Pr2.er {H : Hp} {p : Addr} {u : HO} {ns : List Str} {f g : Str → V} {kvs : List (Key × V)} (h : Pr2 K H ns f g kvs) (hp : H p = some u) (hu : NoTup u) : Pr2 K (er H p) ns f g kvs :=
  ⟨h.keys, fun i n e => by obtain ⟨a, e1, e2⟩ := h.at_ i n e; exact ⟨a, e1, tupEr hp hu e2⟩⟩
theorem Pr2.set {H : Hp} {p : Addr} {u o : HO} {ns : List Str} {f g : Str → V} {kvs : List (Key × V)} (h : Pr2 K H ns f g kvs) (hp : H p = some u) (hu : NoTup u) : Pr2 K (upd H p o) ns f g kvs :=
  ⟨h.keys, fun i n e => by obtain ⟨a, e1, e2⟩ := h.at_ i n e; exact ⟨a, e1, tupSet hp hu e2⟩⟩
theorem Pr2.len {H : Hp} {ns : List Str} {f g : Str → V} {kvs : List (Key × V)} (h : Pr2 K H ns f g kvs) : kvs.length = ns.length := by
  have := congrArg List.length h.keys
  rwa [List.length_map, List.length_map] at this
theorem Pr2.nil {H : Hp} {f g : Str → V} : Pr2 K H [] f g [] := ⟨rfl, fun i n e => by simp at e⟩
theorem Pr2.snoc {H : Hp} {ns : List Str} {f g : Str → V} {kvs : List (Key × V)} {n : Str} {a : Addr} (h : Pr2 K H ns f g kvs) (ha : SqT K H a [f n, g n]) : Pr2 K H (ns ++ [n]) f g (kvs ++ [(.inr n, .ref a)]) := by
  refine ⟨by rw [List.map_append, List.map_append, h.keys]; rfl, fun i m e => ?_⟩
  rcases Nat.lt_or_ge i ns.length with lt | ge
  · rw [List.getElem?_append_left lt] at e
    rw [List.getElem?_append_left (by rw [h.len]; exact lt)]
    exact h.at_ i m e
  · rw [List.getElem?_append_right ge] at e
    rw [List.getElem?_append_right (by rw [h.len]; exact ge), h.len]
    cases e0 : i - ns.length with
    | zero => rw [e0] at e; cases e; exact ⟨a, rfl, ha⟩
    | succ j => rw [e0] at e; simp at e
theorem Pr2.get {H : Hp} {ns : List Str} {f g : Str → V} {kvs : List (Key × V)} (h : Pr2 K H ns f g kvs) {i : Nat} {k : Key} {v : V} (e : kvs[i]? = some (k, v)) : ∃ (hi : i < ns.length) (a : Addr), k = .inr ns[i] ∧ v = .ref a ∧ SqT K H a [f ns[i], g ns[i]] := by
  have hi : i < ns.length := by rw [← h.len]; exact (List.getElem?_eq_some_iff.mp e).1
  obtain ⟨a, e1, e2⟩ := h.at_ i ns[i] (List.getElem?_eq_getElem hi)
  rw [e] at e1
  cases e1
  exact ⟨hi, a, rfl, rfl, e2⟩
theorem Pr2.val {H : Hp} {ns : List Str} {f g : Str → V} {kvs : List (Key × V)} (h : Pr2 K H ns f g kvs) (nd : ns.Nodup) {n : Str} (m : n ∈ ns) : ∃ a : Addr, valV kvs (.inr n) = some (.ref a) ∧ SqT K H a [f n, g n] := by
  obtain ⟨i, hi, e⟩ := List.getElem_of_mem m
  obtain ⟨a, e1, e2⟩ := h.at_ i n (by rw [List.getElem?_eq_getElem hi, e])
  exact ⟨a, valV_at (by rw [h.keys]; exact inr_nd nd) e1, e2⟩
theorem Pr2.congr {H : Hp} {ns : List Str} {f g f' g' : Str → V} {kvs : List (Key × V)} (h : Pr2 K H ns f g kvs) (e : ∀ n ∈ ns, f n = f' n ∧ g n = g' n) : Pr2 K H ns f' g' kvs :=
  ⟨h.keys, fun i n q => by
    obtain ⟨a, e1, e2⟩ := h.at_ i n q
    obtain ⟨x, y⟩ := e n (List.mem_of_getElem? q)
    exact ⟨a, e1, by rw [← x, ← y]; exact e2⟩⟩
/-- neither a list nor a tuple -/
structure NoSq (u : HO) : Prop where
  t : NoTup u
  l : ∀ xs, u ≠ .lst xs
  f : ∀ o xs, u ≠ .frz o (.lst xs)
theorem sxEr {H : Hp} {p a : Addr} {u : HO} {xs : List V} (hp : H p = some u) (hu : NoSq u) (h : SqX K H a xs) : SqX K (er H p) a xs := by
  rcases h with h | h
  · refine .inl ?_
    rcases h with (e | ⟨o, e⟩) | k
    · exact .inl (.inl (er_of (fun z => by rw [z, hp] at e; exact hu.l _ (Option.some.inj e)) e))
    · exact .inl (.inr ⟨o, er_of (fun z => by rw [z, hp] at e; exact hu.f _ _ (Option.some.inj e)) e⟩)
    · exact .inr k
  · exact .inr (tupEr hp hu.t h)
theorem sxSet {H : Hp} {p a : Addr} {u o : HO} {xs : List V} (hp : H p = some u) (hu : NoSq u) (h : SqX K H a xs) : SqX K (upd H p o) a xs := by
  refine sxUp (sxEr hp hu h) fun b v e => ?_
  have q := er_some e
  rw [upd_ne q.1]; exact q.2
structure PrX (K : PySem.W.Frag) (H : Hp) (ns : List Str) (f g : Str → V) (kvs : List (Key × V)) : Prop where
  keys : kvs.map (·.1) = ns.map Sum.inr
  at_ : ∀ (i : Nat) (n : Str), ns[i]? = some n → ∃ a : Addr, kvs[i]? = some (.inr n, .ref a) ∧ SqX K H a [f n, g n]
theorem PrX.up {H H' : Hp} {ns : List Str} {f g : Str → V} {kvs : List (Key × V)} (h : PrX K H ns f g kvs) (s : Same H H') : PrX K H' ns f g kvs :=
  ⟨h.keys, fun i n e => by obtain ⟨a, e1, e2⟩ := h.at_ i n e; exact ⟨a, e1, sxUp e2 s⟩⟩
theorem PrX.er {H : Hp} {p : Addr} {u : HO} {ns : List Str} {f g : Str → V} {kvs : List (Key × V)} (h : PrX K H ns f g kvs) (hp : H p = some u) (hu : NoSq u) : PrX K (er H p) ns f g kvs :=
  ⟨h.keys, fun i n e => by obtain ⟨a, e1, e2⟩ := h.at_ i n e; exact ⟨a, e1, sxEr hp hu e2⟩⟩
theorem PrX.set {H : Hp} {p : Addr} {u o : HO} {ns : List Str} {f g : Str → V} {kvs : List (Key × V)} (h : PrX K H ns f g kvs) (hp : H p = some u) (hu : NoSq u) : PrX K (upd H p o) ns f g kvs :=
  ⟨h.keys, fun i n e => by obtain ⟨a, e1, e2⟩ := h.at_ i n e; exact ⟨a, e1, sxSet hp hu e2⟩⟩
theorem PrX.len {H : Hp} {ns : List Str} {f g : Str → V} {kvs : List (Key × V)} (h : PrX K H ns f g kvs) : kvs.length = ns.length := by
  have := congrArg List.length h.keys
  rwa [List.length_map, List.length_map] at this
theorem PrX.nil {H : Hp} {f g : Str → V} : PrX K H [] f g [] := ⟨rfl, fun i n e => by simp at e⟩
theorem PrX.snoc {H : Hp} {ns : List Str} {f g : Str → V} {kvs : List (Key × V)} {n : Str} {a : Addr} (h : PrX K H ns f g kvs) (ha : SqX K H a [f n, g n]) : PrX K H (ns ++ [n]) f g (kvs ++ [(.inr n, .ref a)]) := by
  refine ⟨by rw [List.map_append, List.map_append, h.keys]; rfl, fun i m e => ?_⟩
  rcases Nat.lt_or_ge i ns.length with lt | ge
  · rw [List.getElem?_append_left lt] at e
    rw [List.getElem?_append_left (by rw [h.len]; exact lt)]
    exact h.at_ i m e
  · rw [List.getElem?_append_right ge] at e
    rw [List.getElem?_append_right (by rw [h.len]; exact ge), h.len]
    cases e0 : i - ns.length with
    | zero => rw [e0] at e; cases e; exact ⟨a, rfl, ha⟩
    | succ j => rw [e0] at e; simp at e
theorem PrX.get {H : Hp} {ns : List Str} {f g : Str → V} {kvs : List (Key × V)} (h : PrX K H ns f g kvs) {i : Nat} {k : Key} {v : V} (e : kvs[i]? = some (k, v)) : ∃ (hi : i < ns.length) (a : Addr), k = .inr ns[i] ∧ v = .ref a ∧ SqX K H a [f ns[i], g ns[i]] := by
  have hi : i < ns.length := by rw [← h.len]; exact (List.getElem?_eq_some_iff.mp e).1
  obtain ⟨a, e1, e2⟩ := h.at_ i ns[i] (List.getElem?_eq_getElem hi)
  rw [e] at e1
  cases e1
  exact ⟨hi, a, rfl, rfl, e2⟩
theorem PrX.val {H : Hp} {ns : List Str} {f g : Str → V} {kvs : List (Key × V)} (h : PrX K H ns f g kvs) (nd : ns.Nodup) {n : Str} (m : n ∈ ns) : ∃ a : Addr, valV kvs (.inr n) = some (.ref a) ∧ SqX K H a [f n, g n] := by
  obtain ⟨i, hi, e⟩ := List.getElem_of_mem m
  obtain ⟨a, e1, e2⟩ := h.at_ i n (by rw [List.getElem?_eq_getElem hi, e])
  exact ⟨a, valV_at (by rw [h.keys]; exact inr_nd nd) e1, e2⟩
theorem PrX.congr {H : Hp} {ns : List Str} {f g f' g' : Str → V} {kvs : List (Key × V)} (h : PrX K H ns f g kvs) (e : ∀ n ∈ ns, f n = f' n ∧ g n = g' n) : PrX K H ns f' g' kvs :=
  ⟨h.keys, fun i n q => by
    obtain ⟨a, e1, e2⟩ := h.at_ i n q
    obtain ⟨x, y⟩ := e n (List.mem_of_getElem? q)
    exact ⟨a, e1, by rw [← x, ← y]; exact e2⟩⟩
theorem Pr2.x {H : Hp} {ns : List Str} {f g : Str → V} {kvs : List (Key × V)} (h : Pr2 K H ns f g kvs) : PrX K H ns f g kvs := ⟨h.keys, fun i n e => by obtain ⟨a, e1, e2⟩ := h.at_ i n e; exact ⟨a, e1, .inr e2⟩⟩
theorem sle_of_rising : ∀ {p : Str} {l : List Str}, PyProof.Rows.risingS p l = true → (p :: l).Pairwise sle
  | _, [], _ => List.pairwise_singleton ..
  | p, x :: r, h => by
    unfold PyProof.Rows.risingS at h
    rw [Bool.and_eq_true] at h
    have ih := sle_of_rising h.2
    have hx : sle p x := fun z => by
      have e : PySem.Spec.ltCps x.cps.toList p.cps.toList = true := by rw [PyProof.Rows.ltCps_eq]; exact decide_eq_true z
      rw [e] at h; cases h.1
    refine List.pairwise_cons.mpr ⟨fun y hy => ?_, ih⟩
    rcases List.mem_cons.mp hy with e | hy
    · rw [e]; exact hx
    · exact sle_trans hx ((List.pairwise_cons.mp ih).1 y hy)
theorem sle_sorted {l : List Str} (h : PyProof.Rows.sortedS l = true) : l.Pairwise sle := by
  cases l with
  | nil => exact List.Pairwise.nil
  | cons x r => exact sle_of_rising h
theorem sle_anti {x y : Str} (a : sle x y) (b : sle y x) : x = y := by
  obtain ⟨x⟩ := x
  obtain ⟨y⟩ := y
  have e : x.toList = y.toList := List.le_antisymm (List.not_lt.mp a) (List.not_lt.mp b)
  rw [Array.toList_inj.mp e]
theorem asc_eq {xs ys : List Str} (p : xs.Perm ys) (hx : PyProof.Rows.sortedS xs = true) (hy : ys.Pairwise sle) : xs = ys :=
  p.eq_of_pairwise (fun _ _ _ _ a b => sle_anti a b) (sle_sorted hx) hy
theorem putF_len (f : Str) (v : V) : ∀ fs : List (Str × V), (putF f v fs).length ≤ fs.length + 1
  | [] => Nat.le_refl _
  | (g, x) :: r => by
    unfold putF
    by_cases e : g = f
    · rw [if_pos e]; exact Nat.le_succ _
    · rw [if_neg e]; exact Nat.succ_le_succ (putF_len f v r)
theorem noTup_ins (C dx : Addr) (fs : List (Str × V)) : NoTup (.ins C dx fs) := ⟨fun _ z => (nomatch z), fun _ _ z => (nomatch z)⟩
end
end K5
set_option Elab.async false
set_option linter.all false
set_option maxRecDepth 100000
set_option maxHeartbeats 4000000
namespace K5
open PySem L2
local macro_rules | `(tactic| walk_at "rd1") => `(tactic| first
  | refine ⟨_, _, rfl, rfl, ?_⟩
  | refine ⟨_, _, _, _, rfl, rfl, SqL.of (by assumption), rfl, ?_⟩
  | refine ⟨_, _, _, _, rfl, rfl, (by assumption), rfl, ?_⟩
  | refine .inl ⟨_, rfl, ?_⟩
  | refine ⟨_, rfl, ?_⟩
  | refine ⟨(by unfold CMul; omega), ?_⟩
  | refine ⟨(by unfold CPow; omega), ?_⟩
  | refine ⟨(by (try dsimp only); omega), ?_⟩
  | refine ⟨(by unfold CDiv; omega), ?_⟩
  | fail "rd1")
local macro_rules | `(tactic| walk_at "rd") => `(tactic| repeat' (walk_at "rd1"))
section
variable {P : Program} {w : World} {K : PySem.W.Frag} {mg : Str → Option Value} {base : Heap} {A : Ad}
theorem Pr2.mov {H H' : Hp} {ns : List Str} {f g : Str → V} {kvs : List (Key × V)} (m : ∀ a xs, SqT K H a xs → SqT K H' a xs) (h : Pr2 K H ns f g kvs) : Pr2 K H' ns f g kvs := ⟨h.keys, fun i n e => by
  obtain ⟨a, e1, e2⟩ := h.at_ i n e
  exact ⟨a, e1, m _ _ e2⟩⟩
end
end K5
set_option Elab.async false
set_option linter.all false
set_option maxRecDepth 100000
set_option maxHeartbeats 4000000
namespace K5
open PySem L2
local macro_rules | `(tactic| walk_at "rd1") => `(tactic| first
  | refine ⟨_, _, rfl, rfl, ?_⟩
  | refine ⟨_, _, _, _, rfl, rfl, SqL.of (by assumption), rfl, ?_⟩
  | refine ⟨_, _, _, _, rfl, rfl, (by assumption), rfl, ?_⟩
  | refine .inl ⟨_, rfl, ?_⟩
  | refine ⟨_, rfl, ?_⟩
  | refine ⟨(by unfold CMul; omega), ?_⟩
  | refine ⟨(by unfold CPow; omega), ?_⟩
  | refine ⟨(by (try dsimp only); omega), ?_⟩
  | refine ⟨(by unfold CDiv; omega), ?_⟩
  | fail "rd1")
local macro_rules | `(tactic| walk_at "rd") => `(tactic| repeat' (walk_at "rd1"))
section
variable {P : Program} {w : World} {K : PySem.W.Frag} {mg : Str → Option Value} {base : Heap} {A : Ad}
mutual
def tq : PyData → Bool
  | .str _ => true
  | .int _ => true
  | .tuple xs => decide (xs.length ≤ 64) && tqAll xs
  | _ => false
def tqAll : List PyData → Bool
  | [] => true
  | d :: ds => tq d && tqAll ds
end
end
end K5
set_option Elab.async false
set_option linter.all false
set_option maxRecDepth 100000
set_option maxHeartbeats 4000000
namespace K5
open PySem L2
local macro_rules | `(tactic| walk_at "rd1") => `(tactic| first
  | refine ⟨_, _, rfl, rfl, ?_⟩
  | refine ⟨_, _, _, _, rfl, rfl, SqL.of (by assumption), rfl, ?_⟩
  | refine ⟨_, _, _, _, rfl, rfl, (by assumption), rfl, ?_⟩
  | refine .inl ⟨_, rfl, ?_⟩
  | refine ⟨_, rfl, ?_⟩
  | refine ⟨(by unfold CMul; omega), ?_⟩
  | refine ⟨(by unfold CPow; omega), ?_⟩
  | refine ⟨(by (try dsimp only); omega), ?_⟩
  | refine ⟨(by unfold CDiv; omega), ?_⟩
  | fail "rd1")
local macro_rules | `(tactic| walk_at "rd") => `(tactic| repeat' (walk_at "rd1"))
section
variable {P : Program} {w : World} {K : PySem.W.Frag} {mg : Str → Option Value} {base : Heap} {A : Ad}
/-- names that are keys of a dict -/
def InK (kvs : List (Key × V)) (ns : List Str) : Prop := ∀ n ∈ ns, (valV kvs (.inr n)).isSome = true ∧ PyData.strOk n = true
theorem PrX.inK {H : Hp} {ks : List Str} {f g : Str → V} {kvs : List (Key × V)} (h : PrX K H ks f g kvs) (nd : ks.Nodup) (ok : ∀ n ∈ ks, PyData.strOk n = true) : InK kvs ks := fun n m => by
  obtain ⟨a, e, _⟩ := h.val nd m
  exact ⟨by rw [e]; rfl, ok n m⟩
theorem InK.sub {kvs : List (Key × V)} {ns ms : List Str} (h : InK kvs ms) (s : ∀ n ∈ ns, n ∈ ms) : InK kvs ns := fun n m => h n (s n m)
end
end K5
set_option Elab.async false
set_option linter.all false
set_option maxRecDepth 100000
set_option maxHeartbeats 4000000
namespace K5
open PySem L2
local macro_rules | `(tactic| walk_at "rd1") => `(tactic| first
  | refine ⟨_, _, rfl, rfl, ?_⟩
  | refine ⟨_, _, _, _, rfl, rfl, SqL.of (by assumption), rfl, ?_⟩
  | refine ⟨_, _, _, _, rfl, rfl, (by assumption), rfl, ?_⟩
  | refine .inl ⟨_, rfl, ?_⟩
  | refine ⟨_, rfl, ?_⟩
  | refine ⟨(by unfold CMul; omega), ?_⟩
  | refine ⟨(by unfold CPow; omega), ?_⟩
  | refine ⟨(by (try dsimp only); omega), ?_⟩
  | refine ⟨(by unfold CDiv; omega), ?_⟩
  | fail "rd1")
local macro_rules | `(tactic| walk_at "rd") => `(tactic| repeat' (walk_at "rd1"))
section
variable {P : Program} {w : World} {K : PySem.W.Frag} {mg : Str → Option Value} {base : Heap} {A : Ad}
/-- G' is G and what is new since H -/
structure More (H G G' : Hp) : Prop where
  same : Same G G'
  new : ∀ b, G' b ≠ none → G b ≠ none ∨ H b = none
theorem More.refl (H G : Hp) : More H G G := ⟨Same.refl _, fun _ h => .inl h⟩
theorem More.step {H H1 G G1 G2 : Hp} (a : More H G G1) (s : Same H H1) (b : More H1 G1 G2) : More H G G2 := ⟨a.same.trans b.same, fun x h => (b.new x h).elim (a.new x) fun e => .inr (s.free e)⟩
theorem More.put {H G G1 : Hp} {D : Addr} {o : HO} (a : More H G G1) (hD : H D = none) (h1 : G1 D = none) : More H G (upd G1 D o) := ⟨a.same.trans (Same.new h1), fun b h => by
  by_cases e : b = D
  · exact .inr (by rw [e]; exact hD)
  · rw [upd_ne e] at h; exact a.new b h⟩
theorem dpApp {H : Hp} : ∀ {vs : List V} {ds : List PyData} {v : V} {d : PyData}, DpAll K H vs ds → Dp K H v d → DpAll K H (vs ++ [v]) (ds ++ [d])
  | _, _, _, _, .nil, h => .cons h .nil
  | _, _, _, _, .cons a b, h => .cons a (dpApp b h)
def spCopy (K : PySem.W.Frag) (n : Nat) : Sp := fun vs H Q _ => ∃ x, vs = [x] ∧
  ((∃ (d : PyData) (G : Hp), Same G H ∧ Dp K G x d ∧ d.depth < n ∧ wid d = true ∧ ∀ y G' H', Same H H' → More H G G' → Same G' H' → Dp K G' y d → Q y H') ∨
    (∃ a, x = .ref a ∧ H a = some (.dK []) ∧ 0 < n ∧ ∀ b H', Same H H' → H b = none → H' b = some (.dK []) → Q (.ref b) H'))
theorem copy_loop {J : It} {n : Nat} {Gd : Hp → Prop} {xs : List V} {ds : List PyData} {H G : Hp} {D : Addr} {x0 : V} {Qd : Hp → Prop} (wk : Walk J xs.length Gd (YAt xs)) (hx : DpAll K G xs ds) (hGH : Same G H)
    (hd : PyData.depthAll ds < n) (hw : widAll ds = true) (hN : ds.length ≤ 1000) (hG : ∀ H', Same H H' → Gd H') (hD : H D = none) (hq : ∀ H' acc G', Same H H' → H' D = some (.lst acc) → More H G G' → Same G' H' → G' D = none → DpAll K G' acc ds → Qd H') :
    ∃ W : Nat → Nat → Hp → Prop, (∃ m, W 0 m (upd H D (.lst []))) ∧ ∀ i m H, W i m H →
      (J.stop i H ∧ Qd H) ∨ (J.go i H ∧ ∃ Nx : Hp → Prop, (∀ H', Nx H' → ∃ m', m' < m ∧ W (i + 1) m' H') ∧ ∀ x H', J.yld i H x H' →
        gName 1 x (wipe [some x0, none, none] [1]) H' fun σ2 H2 => wipe σ2 [1] = wipe [some x0, none, none] [1] ∧ tYes σ2 H2 fun b H3 =>
        if b = true then (tCall (spCopy K n) [] E0 (tCons (tVar 1) tNil)) σ2 H3 fun y H4 => ∃ acc, H4 D = some (.lst acc) ∧ acc.length < sizeLine ∧ Nx (upd H4 D (.lst (acc ++ [y]))) else Nx H3) := by
  have gD : G D = none := hGH.free hD
  refine lc_it wk (fun i H' => Same H H' ∧ ∃ acc G', H' D = some (.lst acc) ∧ More H G G' ∧ Same G' H' ∧ G' D = none ∧ DpAll K G' acc (ds.take i)) ⟨Same.new hD, [], G, upd_same, More.refl _ _, hGH.trans (Same.new hD), gD, .nil⟩ (fun i H' _ p => hG H' p.1) ?_ (fun H' p => ?_)
  · rintro i v H' H'' hi ⟨s1, acc, G', hD', mo, sG, gD', hA⟩ ⟨rfl, hv⟩
    obtain ⟨d, hd1, dx⟩ := dpGet hx hv
    have hdep : d.depth < n := Nat.lt_of_le_of_lt (PyData.depth_le_depthAll ds d (List.mem_of_getElem? hd1)) hd
    have hil : i < ds.length := (List.getElem?_eq_some_iff.mp hd1).1
    have hal := dpLen hA
    refine ⟨rfl, _, rfl, v, rfl, .inl ⟨d, G', sG, dpSame mo.same dx, hdep, widAll_mem hw (List.mem_of_getElem? hd1), fun y G2 H3 s3 mo2 sG2 hy => ?_⟩⟩
    have hD3 := s3 _ _ hD'
    refine ⟨acc, hD3, Nat.lt_of_le_of_lt (show acc.length ≤ 1000 by rw [hal, List.length_take]; omega) (by decide), ?_, acc ++ [y], G2, upd_same, mo.step s1 mo2, ?_, ?_, ?_⟩
    · exact fun b u e => by rw [upd_ne (ne_of_none e hD)]; exact s3 _ _ (s1 _ _ e)
    · have g2 : G2 D = none := by
        cases e : G2 D with
        | none => rfl
        | some o => exact ((mo2.new D (by rw [e]; exact fun z => nomatch z)).elim (fun z => z gD') fun z => by rw [hD'] at z; cases z).elim
      exact fun b u e => by rw [upd_ne (ne_of_none e g2)]; exact sG2 _ _ e
    · cases e : G2 D with
      | none => rfl
      | some o => exact ((mo2.new D (by rw [e]; exact fun z => nomatch z)).elim (fun z => z gD') fun z => by rw [hD'] at z; cases z).elim
    · rw [List.take_succ, hd1]
      exact dpApp (dpAllSame mo2.same hA) hy
  · obtain ⟨s1, acc, G', hD', mo, sG, gD', hA⟩ := p
    rw [dpLen hx, List.take_length] at hA
    exact hq H' acc G' s1 hD' mo sG gD' hA
theorem ok_copied (T : Txt K mg A) : ∀ n : Nat, FnOk P w K mg base CX0 n A.a_copied A.d_copied P_copied (spCopy K n)
  | 0 => no_fn fun vs H Q E ⟨_, _, h⟩ => h.elim (fun ⟨_, _, _, _, h, _⟩ => absurd h (Nat.not_lt_zero _)) fun ⟨_, _, _, h, _⟩ => absurd h (Nat.not_lt_zero _)
  | n + 1 => by
    have G_copied : FnOk P w K mg base CX0 n A.a_copied A.d_copied P_copied (spCopy K n) := ok_copied T n
    refine T.f_copied.ok sc_copied (fun vs H Q E h => ?_) (fun cdv A' outer s H vs Q E hr h => ?_)
    · obtain ⟨x, rfl, _⟩ := h
      rfl
    · obtain ⟨x, rfl, h⟩ := h
      refine ⟨_, (pss_cons (ps_if (pt_val (pe_callB call_isi (by rfl) T.isinstance (by decide +kernel) (pa_cons (pv 0) (pa_cons (pe_bltn (v := .ty "list") (u := .type "list") (by rfl) T.list (by decide +kernel) rfl) pa_nil))))
 (pss_one (ps_ret (pe_lc (own := [("part", 1)]) (g := gName 1) (by rfl) sc_copied.nd (EnT.pi_or (pi_list (pv 0)) (pi_tup (pv 0))) (blkOk_by (N := N_copied) (sc := defScope s_copied) (by decide +kernel)) (fun _ _ _ _ _ => pg_name (i := 1) sc_copied.nd rfl (Or.inl rfl)) (fun _ _ _ _ _ => pts_nil) (fun _ _ _ _ _ => (pe_call G_copied (hr.mono (by omega)) (by rfl) T.g_copied T.f_copied.kp T.b_copied .nil pass0 (pa_cons (pv 1) pa_nil))))))
 pss_nil)
 (pss_cons (ps_if (pt_val (pe_callB call_isi (by rfl) T.isinstance (by decide +kernel) (pa_cons (pv 0) (pa_cons (pe_bltn (v := .ty "tuple") (u := .type "tuple") (by rfl) T.tuple (by decide +kernel) rfl) pa_nil))))
 (pss_one (ps_ret (pe_callTy call_tuple_of (by rfl) T.tuple (by decide +kernel) (pa_cons (pe_lc (own := [("part", 1)]) (g := gName 1) (by rfl) sc_copied.nd (EnT.pi_or (pi_list (pv 0)) (pi_tup (pv 0))) (blkOk_by (N := N_copied) (sc := defScope s_copied) (by decide +kernel)) (fun _ _ _ _ _ => pg_name (i := 1) sc_copied.nd rfl (Or.inl rfl)) (fun _ _ _ _ _ => pts_nil) (fun _ _ _ _ _ => (pe_call G_copied (hr.mono (by omega)) (by rfl) T.g_copied T.f_copied.kp T.b_copied .nil pass0 (pa_cons (pv 1) pa_nil)))) pa_nil))))
 pss_nil)
 (pss_cons (ps_if (pt_val (pe_callB call_isi (by rfl) T.isinstance (by decide +kernel) (pa_cons (pv 0) (pa_cons (pe_bltn (v := .ty "dict") (u := .type "dict") (by rfl) T.dict (by decide +kernel) rfl) pa_nil))))
 (pss_one (ps_ret (pe_lock (pe_dc (own := [("key", 2)]) (g := gName 2) (by rfl) sc_copied.nd (pi_keys (pv 0)) (blkOk_by (N := N_copied) (sc := defScope s_copied) (by decide +kernel)) (fun _ _ _ _ _ => pg_name (i := 2) sc_copied.nd rfl (Or.inl rfl)) (fun _ _ _ _ _ => pts_nil) (fun _ _ _ _ _ => (pv 2)) (fun _ _ _ _ _ => (pe_call G_copied (hr.mono (by omega)) (by rfl) T.g_copied T.f_copied.kp T.b_copied .nil pass0 (pa_cons (pe_dget (hu_of hr) (pv 0) (pv 2) (fun _ _ => rfl)) pa_nil)))))))
 pss_nil)
 (pss_one (ps_ret (pv 0)))))), ?_⟩
      rcases h with ⟨d, G, sG, hx, hd, hw, k⟩ | ⟨a, rfl, ha, _, k⟩
      · cases hx with
        | non => exact ⟨_, rfl, _, _, .type "NoneType", _, false, rfl, .ty _, .base .non, kit_ty (by decide +kernel), _, rfl, iteF ⟨_, rfl, _, _, .type "NoneType", _, false, rfl, .ty _, .base .non, kit_ty (by decide +kernel), _, rfl, iteF ⟨_, rfl, _, _, .type "NoneType", _, false, rfl, .ty _, .base .non, kit_ty (by decide +kernel), _, rfl, iteF ⟨_, rfl, k _ G H (Same.refl _) (More.refl _ _) sG (.non)⟩⟩⟩⟩
        | bl b => exact ⟨_, rfl, _, _, .type "bool", _, false, rfl, .ty _, .base (.bl _), kit_ty (by decide +kernel), _, rfl, iteF ⟨_, rfl, _, _, .type "bool", _, false, rfl, .ty _, .base (.bl _), kit_ty (by decide +kernel), _, rfl, iteF ⟨_, rfl, _, _, .type "bool", _, false, rfl, .ty _, .base (.bl _), kit_ty (by decide +kernel), _, rfl, iteF ⟨_, rfl, k _ G H (Same.refl _) (More.refl _ _) sG (.bl _)⟩⟩⟩⟩
        | int i => exact ⟨_, rfl, _, _, .type "int", _, false, rfl, .ty _, .base (.int _), kit_ty (by decide +kernel), _, rfl, iteF ⟨_, rfl, _, _, .type "int", _, false, rfl, .ty _, .base (.int _), kit_ty (by decide +kernel), _, rfl, iteF ⟨_, rfl, _, _, .type "int", _, false, rfl, .ty _, .base (.int _), kit_ty (by decide +kernel), _, rfl, iteF ⟨_, rfl, k _ G H (Same.refl _) (More.refl _ _) sG (.int _)⟩⟩⟩⟩
        | str z => exact ⟨_, rfl, _, _, .type "str", _, false, rfl, .ty _, .base (.str _), kit_ty (by decide +kernel), _, rfl, iteF ⟨_, rfl, _, _, .type "str", _, false, rfl, .ty _, .base (.str _), kit_ty (by decide +kernel), _, rfl, iteF ⟨_, rfl, _, _, .type "str", _, false, rfl, .ty _, .base (.str _), kit_ty (by decide +kernel), _, rfl, iteF ⟨_, rfl, k _ G H (Same.refl _) (More.refl _ _) sG (.str _)⟩⟩⟩⟩
        | lst hL hA =>
          obtain ⟨w1, w2⟩ := wid_parts (.inl hw)
          have t1 := tyL (sqUp hL sG)
          refine ⟨_, rfl, _, _, .type "list", _, true, rfl, .ty _, t1, kit_ty (by decide +kernel), _, rfl, iteT ?_⟩
          refine seq_or (H0 := H) (.inl (sqUp hL sG)) (Same.refl _) rfl fun J Gd wk hG => fun D hD => copy_loop wk hA sG (by simp only [PyData.depth] at hd; omega) w2 w1 hG hD (fun H' acc G' s' hD' mo sG' gD hA' => ?_)
          refine k (.ref D) (upd G' D (.lst acc)) H' s' (mo.put hD gD) ?_ (.lst (SqL.of upd_same) (dpAllSame (Same.new gD) hA'))
          intro b u e
          by_cases hb : b = D
          · subst hb; rw [upd_same] at e; cases e; exact hD'
          · rw [upd_ne hb] at e; exact sG' _ _ e
        | tup hL hA =>
          obtain ⟨w1, w2⟩ := wid_parts (.inr hw)
          have t1 := tyT (stUp hL sG)
          refine ⟨_, rfl, _, _, .type "tuple", _, false, rfl, .ty _, t1, kit_ty (by decide +kernel), _, rfl, iteF ?_⟩
          refine ⟨_, rfl, _, _, .type "tuple", _, true, rfl, .ty _, t1, kit_ty (by decide +kernel), _, rfl, iteT ?_⟩
          refine seq_or (H0 := H) (.inr (stUp hL sG)) (Same.refl _) rfl fun J Gd wk hG => fun D hD => copy_loop wk hA sG (by simp only [PyData.depth] at hd; omega) w2 w1 hG hD (fun H' acc G' s' hD' mo sG' gD hA' => ?_)
          refine ⟨D, _, rfl, .inl ⟨SqL.of hD', fun t ht => ?_⟩⟩
          have gt : G' t = none := sG'.free ht
          refine k (.ref t) (upd G' t (.tup acc)) _ (s'.trans (Same.new ht)) (mo.put (s'.free ht) gt) ?_ (.tup (SqT.of upd_same) (dpAllSame (Same.new gt) hA'))
          intro b u e
          by_cases hb : b = t
          · subst hb; rw [upd_same] at e ⊢; exact e
          · rw [upd_ne hb] at e ⊢; exact sG' _ _ e
      · have t1 : TyX K H (.ref a) (.type "dict") := .base (.dK ha)
        refine ⟨_, rfl, _, _, .type "dict", _, false, rfl, .ty _, t1, kit_ty (by decide +kernel), _, rfl, iteF ?_⟩
        refine ⟨_, rfl, _, _, .type "dict", _, false, rfl, .ty _, t1, kit_ty (by decide +kernel), _, rfl, iteF ?_⟩
        refine ⟨_, rfl, _, _, .type "dict", _, true, rfl, .ty _, t1, kit_ty (by decide +kernel), _, rfl, iteT ?_⟩
        refine ⟨a, _, ha, trivial, fun od => ?_⟩
        refine ⟨_, rfl, a, od, rfl, .inl ⟨[], upd_same, fun D hD => fillD walk_keys (fun i H' => H' = upd (upd H a (.frz od (.dK []))) D (.dK [])) rfl (fun i H' _ e => ?_) ?_ (fun H' e => ?_)⟩⟩
        · have n : a ≠ D := ne_of_none upd_same hD
          rw [e, upd_ne n, upd_same]
        · intro i x H' H'' hi
          exact absurd hi (Nat.not_lt_zero _)
        · subst e
          have n : a ≠ D := ne_of_none upd_same hD
          have hD0 : H D = none := by rw [upd_ne n.symm] at hD; exact hD
          refine ⟨by rw [upd_ne n, upd_same], k D _ (fun b u e => ?_) hD0 (by rw [upd_ne n.symm, upd_same])⟩
          by_cases hb : b = a
          · subst hb; rw [upd_same]; rw [ha] at e; exact e
          · rw [upd_ne hb, upd_ne (ne_of_none e hD0), upd_ne hb]; exact e
/-- data that can be copied: at a depth below n, in G; or an empty dict -/
def Cpre (K : PySem.W.Frag) (n : Nat) (G H : Hp) (x : V) : Prop := Same G H ∧ ((∃ d, Dp K G x d ∧ d.depth < n ∧ wid d = true) ∨ ∃ a, x = .ref a ∧ H a = some (.dK []) ∧ 0 < n)
/-- two of the same data -/
def SD (K : PySem.W.Frag) (n : Nat) (H : Hp) (x y : V) : Prop := (∃ d, Dp K H x d ∧ Dp K H y d ∧ d.depth < n ∧ wid d = true) ∨ ∃ a b, x = .ref a ∧ y = .ref b ∧ H a = some (.dK []) ∧ H b = some (.dK [])
theorem exo_dK {e C : Addr} {d : Option Addr} {kvs : List (Key × V)} : exo e C d ≠ .dK kvs := fun z => by unfold exo at z; cases z
def spNDI (K : PySem.W.Frag) (n : Nat) (C : Addr) : Sp := fun vs H Q _ => ∃ (a : Addr) (x : V) (G : Hp), vs = [.ref a, x] ∧ H a = some (exo a C none) ∧ G a = none ∧ Cpre K n G H x ∧
  ∀ y Hc dx, Same H Hc → Hc dx = none → dx ≠ a → (∀ H', (∀ b u, Hc b = some u → b ≠ a → H' b = some u) → SD K n H' x y) → Q .non (upd (upd Hc dx (exd dx [("name", y)])) a (exo a C (some dx)))
end
end K5
set_option Elab.async false
set_option linter.all false
set_option maxRecDepth 100000
set_option maxHeartbeats 4000000
namespace K5
open PySem L2
local macro_rules | `(tactic| walk_at "rd1") => `(tactic| first
  | refine ⟨_, _, rfl, rfl, ?_⟩
  | refine ⟨_, _, _, _, rfl, rfl, SqL.of (by assumption), rfl, ?_⟩
  | refine ⟨_, _, _, _, rfl, rfl, (by assumption), rfl, ?_⟩
  | refine .inl ⟨_, rfl, ?_⟩
  | refine ⟨_, rfl, ?_⟩
  | refine ⟨(by unfold CMul; omega), ?_⟩
  | refine ⟨(by unfold CPow; omega), ?_⟩
  | refine ⟨(by (try dsimp only); omega), ?_⟩
  | refine ⟨(by unfold CDiv; omega), ?_⟩
  | fail "rd1")
local macro_rules | `(tactic| walk_at "rd") => `(tactic| repeat' (walk_at "rd1"))
open Own
section
variable {P : Program} {w : World} {K : PySem.W.Frag} {mg : Str → Option Value} {base : Heap} {A : Ad}
/-- an exception is made: what the def's own field is -/
theorem exc_fin {H : Hp} {C a : Addr} {n : Nat} {f : Str} {x y : V} {Hc : Hp} {dd : Addr} {E : XK} (na : H a = none) (s1 : Same (upd H a (exo a C none)) Hc) (h1 : Hc dd = none) (h2 : dd ≠ a) (hs : ∀ H', (∀ b u, Hc b = some u → b ≠ a → H' b = some u) → SD K n H' x y)
    (k : ∀ y dd H', Same H H' → H' dd = some (.xd [(f, y)]) → SD K n H' x y → E (.ref C) (some dd) H') : ∀ H2 : Hp, H2 = upd (upd Hc dd (exd dd [(f, y)])) a (exo a C (some dd)) →
    H2 a = some (exo a C (some dd)) ∧ H2 dd = some (exd dd [(f, y)]) ∧ H dd = none ∧ E (.ref C) (some dd) (upd (del H2 a) dd (.xd [(f, y)])) := by
  rintro H2 rfl
  have sH : Same H Hc := (Same.new na).trans s1
  have keep : ∀ b u, Hc b = some u → b ≠ a → upd (del (upd (upd Hc dd (exd dd [(f, y)])) a (exo a C (some dd))) a) dd (.xd [(f, y)]) b = some u := fun b u e ne => by
    have nd2 : b ≠ dd := fun z => by rw [z, h1] at e; cases e
    rw [upd_ne nd2, del_ne ne, upd_ne ne, upd_ne nd2]
    exact e
  refine ⟨upd_same, by rw [upd_ne h2, upd_same], sH.free h1, k y dd _ (fun b u e => keep b u (sH _ _ e) fun z => by rw [z, na] at e; cases e) upd_same (hs _ keep)⟩
theorem exc_pre {H G : Hp} {C a : Addr} {n : Nat} {x : V} (na : H a = none) (sG : Same G H) (hx : (∃ d, Dp K G x d ∧ d.depth < n ∧ wid d = true) ∨ ∃ a, x = .ref a ∧ H a = some (.dK []) ∧ 0 < n) : Cpre K n G (upd H a (exo a C none)) x :=
  ⟨sG.trans (Same.new na), hx.imp_right fun ⟨a2, e, h2, h3⟩ => ⟨a2, e, Same.new na _ _ h2, h3⟩⟩
end
end K5
set_option Elab.async false
set_option linter.all false
set_option maxRecDepth 100000
set_option maxHeartbeats 4000000
namespace K5
open PySem L2
local macro_rules | `(tactic| walk_at "rd1") => `(tactic| first
  | refine ⟨_, _, rfl, rfl, ?_⟩
  | refine ⟨_, _, _, _, rfl, rfl, SqL.of (by assumption), rfl, ?_⟩
  | refine ⟨_, _, _, _, rfl, rfl, (by assumption), rfl, ?_⟩
  | refine .inl ⟨_, rfl, ?_⟩
  | refine ⟨_, rfl, ?_⟩
  | refine ⟨(by unfold CMul; omega), ?_⟩
  | refine ⟨(by unfold CPow; omega), ?_⟩
  | refine ⟨(by (try dsimp only); omega), ?_⟩
  | refine ⟨(by unfold CDiv; omega), ?_⟩
  | fail "rd1")
local macro_rules | `(tactic| walk_at "rd") => `(tactic| repeat' (walk_at "rd1"))
open Own
section
variable {P : Program} {w : World} {K : PySem.W.Frag} {mg : Str → Option Value} {base : Heap} {A : Ad}
def wsh (s a t b : Str) (m : Int) : PyData := .tuple [.tuple [.str s, .str a], .tuple [.str t, .str b], .int m]
def two (a b : Str) (m : Int) : List PyData := [wsh "done" a "done" b m, wsh "done" b "done" a m]
def row (m : Int) (a : Str) : List Str → List PyData
  | [] => []
  | b :: r => two a b m ++ row m a r
end
end K5
set_option Elab.async false
set_option linter.all false
set_option maxRecDepth 100000
set_option maxHeartbeats 4000000
namespace K5
open PySem L2
local macro_rules | `(tactic| walk_at "rd1") => `(tactic| first
  | refine ⟨_, _, rfl, rfl, ?_⟩
  | refine ⟨_, _, _, _, rfl, rfl, SqL.of (by assumption), rfl, ?_⟩
  | refine ⟨_, _, _, _, rfl, rfl, (by assumption), rfl, ?_⟩
  | refine .inl ⟨_, rfl, ?_⟩
  | refine ⟨_, rfl, ?_⟩
  | refine ⟨(by unfold CMul; omega), ?_⟩
  | refine ⟨(by unfold CPow; omega), ?_⟩
  | refine ⟨(by (try dsimp only); omega), ?_⟩
  | refine ⟨(by unfold CDiv; omega), ?_⟩
  | fail "rd1")
local macro_rules | `(tactic| walk_at "rd") => `(tactic| repeat' (walk_at "rd1"))
open Own
section
variable {P : Program} {w : World} {K : PySem.W.Frag} {mg : Str → Option Value} {base : Heap} {A : Ad}
theorem fnOr {CX : CXT} {k : Nat} {f : Addr} {fd : FuncData} {ps : List Str} {sp1 sp2 : Sp} (F1 : FnOk P w K mg base CX k f fd ps sp1) (F2 : FnOk P w K mg base CX k f fd ps sp2) : FnOk P w K mg base CX k f fd ps (fun vs H Q E => sp1 vs H Q E ∨ sp2 vs H Q E) :=
  ⟨fun vs H Q E h => h.elim (F1.len vs H Q E) (F2.len vs H Q E), fun A outer s H args us vs Q E hr e b v h => h.elim (F1.run A outer s H args us vs Q E hr e b v) (F2.run A outer s H args us vs Q E hr e b v)⟩
end
end K5
set_option Elab.async false
set_option linter.all false
set_option maxRecDepth 100000
set_option maxHeartbeats 4000000
namespace K5
open PySem L2
local macro_rules | `(tactic| walk_at "rd1") => `(tactic| first
  | refine ⟨_, _, rfl, rfl, ?_⟩
  | refine ⟨_, _, _, _, rfl, rfl, SqL.of (by assumption), rfl, ?_⟩
  | refine ⟨_, _, _, _, rfl, rfl, (by assumption), rfl, ?_⟩
  | refine .inl ⟨_, rfl, ?_⟩
  | refine ⟨_, rfl, ?_⟩
  | refine ⟨(by unfold CMul; omega), ?_⟩
  | refine ⟨(by unfold CPow; omega), ?_⟩
  | refine ⟨(by (try dsimp only); omega), ?_⟩
  | refine ⟨(by unfold CDiv; omega), ?_⟩
  | fail "rd1")
local macro_rules | `(tactic| walk_at "rd") => `(tactic| repeat' (walk_at "rd1"))
open Own
section
variable {P : Program} {w : World} {K : PySem.W.Frag} {mg : Str → Option Value} {base : Heap} {A : Ad}
def nt (H : Hp) : Hp := fun a => match H a with | some (.tbl _) => none | o => o
theorem nt_of {H : Hp} {a : Addr} {o : HO} (h : H a = some o) (n : ∀ ps, o ≠ .tbl ps) : nt H a = some o := by
  unfold nt
  rw [h]
  cases o <;> first | rfl | exact absurd rfl (n _)
theorem sqtNt {H : Hp} {a : Addr} {xs : List V} (h : SqT K H a xs) : SqT K (nt H) a xs := by
  rcases h with (h | ⟨o, h⟩) | h
  · exact .inl (.inl (nt_of h fun _ z => nomatch z))
  · exact .inl (.inr ⟨o, nt_of h fun _ z => nomatch z⟩)
  · exact .inr h
theorem Pr2.nt {H : Hp} {ns : List Str} {f g : Str → V} {kvs : List (Key × V)} (h : Pr2 K H ns f g kvs) : Pr2 K (nt H) ns f g kvs :=
  ⟨h.keys, fun i n e => by obtain ⟨a, e1, e2⟩ := h.at_ i n e; exact ⟨a, e1, sqtNt e2⟩⟩
theorem sqlNt {H : Hp} {a : Addr} {xs : List V} (h : SqL K H a xs) : SqL K (nt H) a xs := by
  rcases h with (h | ⟨o, h⟩) | h
  · exact .inl (.inl (nt_of h fun _ z => nomatch z))
  · exact .inl (.inr ⟨o, nt_of h fun _ z => nomatch z⟩)
  · exact .inr h
mutual
theorem dpNt {H : Hp} : ∀ {v : V} {d : PyData}, Dp K H v d → Dp K (nt H) v d
  | _, _, .non => .non
  | _, _, .bl b => .bl b
  | _, _, .int i => .int i
  | _, _, .str x => .str x
  | _, _, .lst h q => .lst (sqlNt h) (dpAllNt q)
  | _, _, .tup h q => .tup (sqtNt h) (dpAllNt q)
theorem dpAllNt {H : Hp} : ∀ {vs : List V} {ds : List PyData}, DpAll K H vs ds → DpAll K (nt H) vs ds
  | _, _, .nil => .nil
  | _, _, .cons a b => .cons (dpNt a) (dpAllNt b)
end
theorem sd_up {n : Nat} {H H' : Hp} {x y : V} (h : SD K n H x y) (s : Same H H') : SD K n H' x y :=
  h.elim (fun ⟨d, a, b, c⟩ => .inl ⟨d, dpSame s a, dpSame s b, c⟩) fun ⟨a, b, e1, e2, h1, h2⟩ => .inr ⟨a, b, e1, e2, s _ _ h1, s _ _ h2⟩
theorem takes_len {X : Cx} {W : WX} (t : Takes X W) : Takes X (fun c d σ H => σ.length = X.N.length → W c d σ H) := fun u s' ⟨a, B, sI, pins, σ, H, cls, d, e, I, nb, up, sky, na, os, ag, w⟩ =>
  t u s' ⟨a, B, sI, pins, σ, H, cls, d, e, I, nb, up, sky, na, os, ag, w I.len⟩
theorem three {α : Type} {xs : List α} (h : xs.length = 3) : ∃ x y z, xs = [x, y, z] := match xs, h with | [x, y, z], _ => ⟨x, y, z, rfl⟩
end
end K5
set_option Elab.async false
set_option linter.all false
set_option maxRecDepth 100000
set_option maxHeartbeats 4000000
namespace K5
open PySem L2
local macro_rules | `(tactic| walk_at "rd1") => `(tactic| first
  | refine ⟨_, _, rfl, rfl, ?_⟩
  | refine ⟨_, _, _, _, rfl, rfl, SqL.of (by assumption), rfl, ?_⟩
  | refine ⟨_, _, _, _, rfl, rfl, (by assumption), rfl, ?_⟩
  | refine .inl ⟨_, rfl, ?_⟩
  | refine ⟨_, rfl, ?_⟩
  | refine ⟨(by unfold CMul; omega), ?_⟩
  | refine ⟨(by unfold CPow; omega), ?_⟩
  | refine ⟨(by (try dsimp only); omega), ?_⟩
  | refine ⟨(by unfold CDiv; omega), ?_⟩
  | fail "rd1")
local macro_rules | `(tactic| walk_at "rd") => `(tactic| repeat' (walk_at "rd1"))
section
variable {P : Program} {w : World} {K : PySem.W.Frag} {mg : Str → Option Value} {base : Heap} {A : Ad}
def spRising (K : PySem.W.Frag) : Sp := fun vs H Q _ => ∃ (t : Addr) (ss : List Str), vs = [.ref t] ∧ SqL K H t (ss.map V.str) ∧ ss.length ≤ 64 ∧
  ∀ (p : Addr) (ys : List Str) (H' : Hp), ys.Perm ss → ys.Pairwise sle → H p = none → Same H H' → H' p = some (.lst (ys.map V.str)) → Q (.ref p) H'
theorem ok_rising (T : Txt K mg A) : FnOk P w K mg base CX0 1 A.a__law_rising A.d__law_rising P__law_rising (spRising K) := by
  refine T.f__law_rising.ok sc__law_rising (fun vs H Q E h => ?_) (fun cdv A' outer s H vs Q E hr h => ?_)
  · obtain ⟨t, ss, rfl, _⟩ := h
    rfl
  · obtain ⟨t, ss, rfl, hS, hl, k⟩ := h
    refine ⟨_, (pss_cons (ps_set (i := 1) sc__law_rising.nd rfl (Or.inl rfl) (pe_lst pa_nil))
 (pss_cons (ps_for PassesOwn.never rfl (pi_list (pv 0)) (pg_name (i := 2) sc__law_rising.nd rfl (Or.inr rfl))
 (pss_one (ps_expr (pe_bm PySem.F.plainAttrs_list PySem.F.slot_list_insert PySem.F.type_list_insert mt_insert (pv 1) (pa_cons (pe_callB call_len_seq (by rfl) T.len PySem.boot_len (pa_cons (pe_lc (own := [("_law_x", 3)]) (g := gName 3) (by rfl) sc__law_rising.nd (pi_list (pv 1)) (blkOk_by (N := N__law_rising) (sc := defScope s__law_rising) (by decide +kernel)) (fun _ _ _ _ _ => pg_name (i := 3) sc__law_rising.nd rfl (Or.inl rfl)) (fun _ _ _ _ _ => pts_one (pt_cmpR op_le_str (pv 3) (pv 2) (nomark _))) (fun _ _ _ _ _ => (pv 3))) pa_nil)) (pa_cons (pv 2) pa_nil))))))
 (pss_one (ps_ret (pv 1))))), ?_⟩
    have same_at : ∀ {p : Addr} {H' : Hp} {o : HO}, H p = none → Same H H' → Same H (upd H' p o) := fun hp s b u e => by
      rw [upd_ne (ne_of_none e hp)]; exact s _ _ e
    refine ⟨Nat.zero_le _, fun p hp => ?_⟩
    refine ⟨_, rfl, t, rfl, ⟨_, sqUp hS (Same.new hp)⟩, for_it (walk_list (K := K) (a := t)) (fun i σ' H' => ∃ x acc, σ' = [some (.ref t), some (.ref p), x, none] ∧ Same H H' ∧ H' p = some (.lst (acc.map V.str)) ∧ acc.Perm (ss.take i) ∧ acc.Pairwise sle)
      ⟨_, [], rfl, Same.new hp, upd_same, List.Perm.refl _, .nil⟩ (fun i σ' H' _ z => sqUp hS z.choose_spec.choose_spec.2.1) ?_ ?_⟩
    · rintro i v σ' H' H'' hi ⟨x, acc, rfl, s1, hacc, hperm, hsort⟩ ⟨rfl, hx⟩
      obtain ⟨hi, rfl⟩ := str_at hx
      have hal : acc.length ≤ 64 := by rw [hperm.length_eq, List.length_take]; omega
      refine ⟨_, rfl, .inl ⟨rfl, _, SqL.of hacc⟩, _, rfl, p, rfl, ⟨_, SqL.of hacc⟩, fun D hD => lc_it (walk_list (K := K) (a := p)) (fun j H3 => Same H'' H3 ∧ H3 D = some (.lst (((acc.take j).filter fun x => decide (sle x ss[i])).map V.str))) ⟨Same.new hD, upd_same⟩ (fun j H3 _ z => SqL.of (z.1 _ _ hacc)) ?_ (fun H3 z => ?_)⟩
      · rintro j y H3 H4 hj ⟨s3, hD3⟩ ⟨rfl, hy⟩
        obtain ⟨hj, rfl⟩ := str_at hy
        have et : (acc.take (j + 1)).filter (fun x => decide (sle x ss[i])) = (acc.take j).filter (fun x => decide (sle x ss[i])) ++ (if sle acc[j] ss[i] then [acc[j]] else []) := by
          rw [List.take_succ, List.getElem?_eq_getElem hj, List.filter_append]
          congr 1
          by_cases e : sle acc[j] ss[i] <;> simp [e]
        have hfl : (((acc.take j).filter fun x => decide (sle x ss[i])).map V.str).length ≤ 64 := by
          rw [List.length_map]
          refine Nat.le_trans (List.length_filter_le _ _) (by rw [List.length_take]; omega)
        refine ⟨rfl, _, rfl, _, rfl, _, _, rfl, rfl, _, rfl, ite2 (fun q => ?_) (fun q => ?_)⟩
        · have e : sle acc[j] ss[i] := fun z => by
            rw [decide_eq_true (show ss[i].cps.toList < acc[j].cps.toList from z)] at q
            cases q
          refine ⟨_, rfl, _, hD3, Nat.lt_of_le_of_lt hfl (by decide), ?_, ?_⟩
          · exact fun b u e => by rw [upd_ne (ne_of_none e hD)]; exact s3 _ _ e
          · rw [upd_same, et, if_pos e, List.map_append]; rfl
        · have e : ¬ sle acc[j] ss[i] := fun z => q (by rw [decide_eq_false (show ¬ ss[i].cps.toList < acc[j].cps.toList from z)]; rfl)
          exact ⟨s3, by rw [et, if_neg e, List.append_nil]; exact hD3⟩
      · obtain ⟨s3, hD3⟩ := z
        rw [List.length_map, List.take_length] at hD3
        have hk := rk_le ss[i] acc
        have ek : (((acc.filter fun x => decide (sle x ss[i])).map V.str).length : Int) = ((rk ss[i] acc : Nat) : Int) := by rw [List.length_map]; rfl
        refine ⟨D, _, rfl, .inl (SqL.of hD3), _, rfl, p, acc.map V.str, _, _, rfl, rfl, s3 _ _ hacc, by rw [List.length_map]; exact Nat.lt_of_le_of_lt hal (by decide), by omega, by omega, ?_⟩
        rw [ek, Int.toNat_natCast]
        refine ⟨_, acc.take (rk ss[i] acc) ++ [ss[i]] ++ acc.drop (rk ss[i] acc), rfl, same_at hp (s1.trans s3), ?_, ?_, rise_sorted ss[i] hsort⟩
        · rw [upd_same, List.map_append, List.map_append, List.map_take, List.map_drop]; rfl
        · rw [List.take_succ, List.getElem?_eq_getElem hi]
          exact (rise_perm _ _ _).trans (hperm.append_right _)
    · rintro σ' H' ⟨x, acc, rfl, s1, hacc, hperm, hsort⟩
      rw [List.length_map, List.take_length] at hperm
      exact ⟨_, rfl, k p acc H' hperm hsort hp s1 hacc⟩
end
end K5
set_option Elab.async false
set_option linter.all false
set_option maxRecDepth 100000
set_option maxHeartbeats 4000000
namespace K5
open PySem L2
local macro_rules | `(tactic| walk_at "rd1") => `(tactic| first
  | refine ⟨_, _, rfl, rfl, ?_⟩
  | refine ⟨_, _, _, _, rfl, rfl, SqL.of (by assumption), rfl, ?_⟩
  | refine ⟨_, _, _, _, rfl, rfl, (by assumption), rfl, ?_⟩
  | refine .inl ⟨_, rfl, ?_⟩
  | refine ⟨_, rfl, ?_⟩
  | refine ⟨(by unfold CMul; omega), ?_⟩
  | refine ⟨(by unfold CPow; omega), ?_⟩
  | refine ⟨(by (try dsimp only); omega), ?_⟩
  | refine ⟨(by unfold CDiv; omega), ?_⟩
  | fail "rd1")
local macro_rules | `(tactic| walk_at "rd") => `(tactic| repeat' (walk_at "rd1"))
section
variable {P : Program} {w : World} {K : PySem.W.Frag} {mg : Str → Option Value} {base : Heap} {A : Ad}
abbrev Rows := List (Str × Str)
def kvR (rows : Rows) : List (Key × V) := rows.map fun r => (.inr r.1, .str r.2)
def ksR (rows : Rows) : List Str := rows.map (·.1)
/-- each hangs on the clock or on one ahead of it -/
def Tree (rows : Rows) : Prop := ∀ (i : Nat) (k h : Str), rows[i]? = some (k, h) → h = "clock" ∨ h ∈ ksR (rows.take i)
theorem kvR_keys (rows : Rows) : (kvR rows).map (·.1) = (ksR rows).map Sum.inr := by simp [kvR, ksR]
theorem kvR_len (rows : Rows) : (kvR rows).length = rows.length := by simp [kvR]
theorem kvR_app (rows : Rows) (k h : Str) : kvR (rows ++ [(k, h)]) = kvR rows ++ [(.inr k, .str h)] := by simp [kvR]
theorem ksR_app (rows : Rows) (k h : Str) : ksR (rows ++ [(k, h)]) = ksR rows ++ [k] := by simp [ksR]
theorem Tree.nil : Tree [] := fun i k h e => by simp at e
theorem Tree.app {rows : Rows} {k h : Str} (t : Tree rows) (hh : h = "clock" ∨ h ∈ ksR rows) : Tree (rows ++ [(k, h)]) := fun i k' h' e => by
  rcases Nat.lt_or_ge i rows.length with lt | ge
  · rw [List.getElem?_append_left lt] at e
    rw [List.take_append_of_le_length (Nat.le_of_lt lt)]
    exact t i k' h' e
  · rw [List.getElem?_append_right ge] at e
    have e0 : i - rows.length = 0 := by
      rcases Nat.eq_zero_or_pos (i - rows.length) with z | z
      · exact z
      · rw [List.getElem?_eq_none (by simp; omega)] at e; cases e
    rw [e0] at e
    cases e
    have : i = rows.length := by omega
    subst this
    rw [List.take_append_of_le_length (Nat.le_refl _), List.take_length]
    exact hh
def spHung (K : PySem.W.Frag) : Sp := fun vs H Q _ => ∃ (st c t : Addr) (ns : List Str) (b : Int), vs = [.ref st, .ref t] ∧ Sta H st c b ∧ b + 130 ≤ 1000000 ∧ SqL K (er H st) t (ns.map V.str) ∧ ns.length ≤ 64 ∧ ns.Nodup ∧ (∀ s ∈ ns, PyData.strOk s = true) ∧
  ∀ (p : Addr) (rows : Rows) (H' : Hp), (ksR rows).Perm ns → Tree rows → Gs st c H H' (b + 130) → er H' st p = some (.dK (kvR rows)) → er H st p = none → Q (.ref p) H'
theorem ok_hung (T : Txt K mg A) : FnOk P w K mg base CX0 3 A.a__law_hung A.d__law_hung P__law_hung (spHung K) := by
  have G__law_mix : FnOk P w K mg base CX0 2 A.a__law_mix A.d__law_mix P__law_mix (spMix K) := ok_mix T
  have G__law_one : FnOk P w K mg base CX0 2 A.a__law_one A.d__law_one P__law_one (spOne K) := ok_one T
  refine T.f__law_hung.ok sc__law_hung (fun vs H Q E h => ?_) (fun cdv A' outer s H vs Q E hr h => ?_)
  · obtain ⟨st, c, t, ns, b, rfl, _⟩ := h
    rfl
  · obtain ⟨st, c, t, ns, b, rfl, S, hb, hS, hl, hnd, hok, k⟩ := h
    refine ⟨_, (pss_cons (ps_par (i := 2) (j := 3) (by rfl) sc__law_hung.nd rfl rfl (by decide) rfl rfl (pa_cons (pe_call G__law_mix (hr.mono (by omega)) (by rfl) T.g__law_mix T.f__law_mix.kp T.b__law_mix .nil pass0 (pa_cons (pv 0) (pa_cons (pv 1) pa_nil))) (pa_cons pe_dnewK pa_nil)) (by rfl))
 (pss_cons (ps_for PassesOwn.never rfl (pi_enum (by rfl) T.enumerate (pa_cons (pv 2) pa_nil)) (pg_tup (by rfl) (pgs_cons (pg_name (i := 4) sc__law_hung.nd rfl (Or.inl rfl)) (pgs_cons (pg_name (i := 5) sc__law_hung.nd rfl (Or.inl rfl)) pgs_nil)))
 (pss_one (ps_dput (hu_of hr) (pv 3) (pv 5) (pe_call G__law_one (hr.mono (by omega)) (by rfl) T.g__law_one T.f__law_one.kp T.b__law_one .nil pass0 (pa_cons (pv 0) (pa_cons (pe_op op_cat (pe_lst (pa_cons pe_str pa_nil)) (pe_slice sl_list (pv 2) po_none (po_some (pv 4)))) pa_nil))) rfl)))
 (pss_one (ps_ret (pv 3))))), ?_⟩
    refine ⟨_, rfl, _, rfl, st, c, t, ns, b, rfl, S, by omega, hS, hl, hok, fun q ys H1 hperm g1 hq hq0 => fun p hp => ⟨_, _, rfl, ?_⟩⟩
    have yN : ys.Nodup := hperm.nodup_iff.mpr hnd
    have yl : ys.length ≤ 64 := by rw [hperm.length_eq]; exact hl
    have mp := g1.sta.ne hp
    have ep : er H st p = none := g1.same.free (er_none hp)
    have g2 := g1.new hp (o := .dK [])
    have npq : p ≠ q := (ne_of_none ((er_same _ _) _ _ hq) hp).symm
    have hq2 := er_mono (st := st) (Same.new (o := .dK []) hp) _ _ hq
    have hp2 : er (upd H1 p (.dK [])) st p = some (.dK []) := er_of mp upd_same
    generalize upd H1 p (.dK []) = H2 at g2 hq2 hp2 ⊢
    refine ⟨_, rfl, q, _, rfl, SqL.of ((er_same _ _) _ _ hq2), for_it walk_enum (fun i σ' H' => ∃ x y rows, σ' = [some (.ref st), some (.ref t), some (.ref q), some (.ref p), x, y] ∧ Gs st c H H' (b + 64 + (i : Int)) ∧ er H' st q = some (.lst (ys.map V.str)) ∧ er H' st p = some (.dK (kvR rows)) ∧ ksR rows = ys.take i ∧ Tree rows)
      ⟨_, _, [], rfl, by simpa using g2, hq2, hp2, rfl, Tree.nil⟩ (fun i σ' H' _ z => SqL.of ((er_same _ _) _ _ z.choose_spec.choose_spec.choose_spec.2.2.1)) ?_ ?_⟩
    · rintro i x σ' H' H'' hi ⟨_, _, rows, rfl, g, hq3, hp3, hks, hT⟩ ⟨Tt, u, v, rfl, hTt, rfl, hu, hv⟩
      have eu : u = .int (i : Nat) := (Option.some.inj hu).symm
      subst eu
      obtain ⟨hi, rfl⟩ := str_at hv
      have g3 := g.new hTt (o := .tup [.int (i : Nat), .str ys[i]])
      have s3 : Same (er H' st) (er (upd H' Tt (.tup [.int (i : Nat), .str ys[i]])) st) := er_mono (Same.new hTt)
      refine ⟨Tt, _, rfl, SqT.of upd_same, rfl, _, _, rfl, _, _, rfl, rfl, ?_⟩
      have hq3 := s3 _ _ hq3
      have hp3 := s3 _ _ hp3
      generalize upd H' Tt (.tup [.int (i : Nat), .str ys[i]]) = H3 at g3 hq3 hp3 ⊢
      refine ⟨_, rfl, by show 1 ≤ sizeLine; decide, fun e he => ⟨_, rfl, _, rfl, _, rfl, _, _, rfl, SqL.of (Same.new he _ _ ((er_same _ _) _ _ hq3)), fun d hd => ?_⟩⟩
      have ec : cutV (ys.map V.str) none (some ((i : Nat) : Int)) = (ys.take i).map V.str := by
        unfold cutV
        rw [HT.sIx_none, HT.sIx_nat, List.drop_zero, Nat.sub_zero, List.map_take, List.length_map, Nat.min_eq_left (Nat.le_of_lt hi)]
      rw [ec]
      have g4 := (g3.new he (o := .lst [.str "clock"])).new hd (o := .lst ((ys.take i).map V.str))
      have h1 : upd (upd H3 e (.lst [.str "clock"])) d (.lst ((ys.take i).map V.str)) e = some (.lst [.str "clock"]) := by rw [upd_ne (ne_of_none upd_same hd), upd_same]
      have s4 : Same (er H3 st) (er (upd (upd H3 e (.lst [.str "clock"])) d (.lst ((ys.take i).map V.str))) st) := (er_mono (Same.new he)).trans (er_mono (Same.new hd))
      have h2 : upd (upd H3 e (.lst [.str "clock"])) d (.lst ((ys.take i).map V.str)) d = some (.lst ((ys.take i).map V.str)) := upd_same
      generalize upd (upd H3 e (.lst [.str "clock"])) d (.lst ((ys.take i).map V.str)) = H4 at g4 h1 h2 s4 ⊢
      have hil : (ys.take i).length ≤ 64 := by rw [List.length_take]; omega
      refine ⟨_, _, _, _, rfl, rfl, h1, h2, by show _ ≤ sizeLine; rw [List.length_map, List.length_singleton]; exact Nat.le_trans (show 1 + (ys.take i).length ≤ 65 by omega) (by decide), fun l hl => ?_⟩
      have ml := g4.sta.ne hl
      have g5 := g4.new hl (o := .lst ([.str "clock"] ++ (ys.take i).map V.str))
      have s5 := s4.trans (er_mono (st := st) (Same.new (o := .lst ([.str "clock"] ++ (ys.take i).map V.str)) hl))
      refine ⟨st, c, l, _, _, rfl, g5.sta, by omega, SqL.of (er_of ml upd_same), by simp, by simp; omega, fun j v H5 hv g6 => ?_⟩
      obtain ⟨h, rfl, hh⟩ : ∃ h : Str, v = V.str h ∧ (h = "clock" ∨ h ∈ ys.take i) := by
        have hm := List.mem_of_getElem? hv
        rcases List.mem_append.mp hm with z | z
        · exact ⟨_, List.mem_singleton.mp z, .inl rfl⟩
        · obtain ⟨h, hh, e⟩ := List.mem_map.mp z
          exact ⟨h, e.symm, .inr hh⟩
      have s6 := s5.trans g6.same
      have hp6 := s6 _ _ hp3
      have hq6 := s6 _ _ hq3
      have g7 := (g5.trans g6)
      have kl : rows.length = i := by
        have := congrArg List.length hks
        rw [ksR, List.length_map, List.length_take] at this
        omega
      have hk : (Sum.inr ys[i] : Key) ∉ (kvR rows).map (·.1) := by
        rw [kvR_keys, hks]
        intro m
        obtain ⟨z, hz, ez⟩ := List.mem_map.mp m
        exact not_in_take yN hi (by rw [← Sum.inr.inj ez]; exact hz)
      refine ⟨_, rfl, _, rfl, p, _, rfl, .inl ⟨kvR rows, .inr ys[i], (er_same _ _) _ _ hp6, rfl, by rw [kvR_len, kl]; exact Nat.lt_of_lt_of_le (show i < 65 by omega) (by decide), rfl⟩, ?_⟩
      rw [put_new _ _ _ hk, ← kvR_app]
      refine ⟨_, _, rows ++ [(ys[i], h)], rfl, (g7.le (by omega) (by omega)).set S.hc ep mp, ?_, ?_, ?_, hT.app (by rw [hks]; exact hh)⟩
      · rw [er_updp mp, upd_ne npq.symm]; exact hq6
      · rw [er_updp mp, upd_same]
      · rw [ksR_app, hks, List.take_succ, List.getElem?_eq_getElem hi]; rfl
    · rintro σ' H' ⟨x, y, rows, rfl, g, hq3, hp3, hks, hT⟩
      rw [List.length_map, List.take_length] at hks
      exact ⟨_, rfl, k p rows H' (by rw [hks]; exact hperm) hT (g.le (by rw [List.length_map]; omega) (by omega)) hp3 ep⟩
end
end K5
set_option Elab.async false
set_option linter.all false
set_option maxRecDepth 100000
set_option maxHeartbeats 4000000
namespace K5
open PySem L2
local macro_rules | `(tactic| walk_at "rd1") => `(tactic| first
  | refine ⟨_, _, rfl, rfl, ?_⟩
  | refine ⟨_, _, _, _, rfl, rfl, SqL.of (by assumption), rfl, ?_⟩
  | refine ⟨_, _, _, _, rfl, rfl, (by assumption), rfl, ?_⟩
  | refine .inl ⟨_, rfl, ?_⟩
  | refine ⟨_, rfl, ?_⟩
  | refine ⟨(by unfold CMul; omega), ?_⟩
  | refine ⟨(by unfold CPow; omega), ?_⟩
  | refine ⟨(by (try dsimp only); omega), ?_⟩
  | refine ⟨(by unfold CDiv; omega), ?_⟩
  | fail "rd1")
local macro_rules | `(tactic| walk_at "rd") => `(tactic| repeat' (walk_at "rd1"))
section
variable {P : Program} {w : World} {K : PySem.W.Frag} {mg : Str → Option Value} {base : Heap} {A : Ad}
/-- alike, of two texts -/
def spAlike : Sp := fun vs H Q _ => ∃ (a b : Str), vs = [.str a, .str b] ∧ Q (.bl (decide (V.str a = V.str b))) H
theorem ok_alike (T : Txt K mg A) : FnOk P w K mg base CX0 1 A.a_alike A.d_alike P_alike spAlike := by
  have G_alike : FnOk P w K mg base CX0 0 A.a_alike A.d_alike P_alike (fun _ _ _ _ => False) := no_fn fun _ _ _ _ h => h
  refine T.f_alike.ok sc_alike (fun vs H Q E h => ?_) (fun cdv A' outer s H vs Q E hr h => ?_)
  · obtain ⟨a, b, rfl, _⟩ := h
    rfl
  · obtain ⟨a, b, rfl, k⟩ := h
    refine ⟨_, (pss_cons (ps_if (PW.pt (pw_and (pt_val (pe_callB call_isi (by rfl) T.isinstance (by decide +kernel) (pa_cons (pv 0) (pa_cons (pe_bltn (v := .ty "tuple") (u := .type "tuple") (by rfl) T.tuple (by decide +kernel) rfl) pa_nil)))) (pw_and1 (pt_val (pe_callB call_isi (by rfl) T.isinstance (by decide +kernel) (pa_cons (pv 1) (pa_cons (pe_bltn (v := .ty "tuple") (u := .type "tuple") (by rfl) T.tuple (by decide +kernel) rfl) pa_nil)))))))
 (pss_cons (ps_if (pt_cmpR op_ne (pe_callB call_len_seq (by rfl) T.len PySem.boot_len (pa_cons (pv 0) pa_nil)) (pe_callB call_len_seq (by rfl) T.len PySem.boot_len (pa_cons (pv 1) pa_nil)) (nomark _))
 (pss_one (ps_ret pe_bl))
 pss_nil)
 (pss_one (ps_ret (pe_callB (cr_all rfl) (by rfl) T.all (by decide +kernel) (pa_cons (pe_lc (own := [("mine", 2), ("yours", 3)]) (g := gTup K 2 (gCons (gName 2) (gCons (gName 3) gNil))) (by rfl) sc_alike.nd (pi_zip (by rfl) T.zip (pa_cons (pv 0) (pa_cons (pv 1) pa_nil))) (blkOk_by (N := N_alike) (sc := defScope s_alike) (by decide +kernel)) (fun _ _ _ _ _ => (pg_tup rfl (pgs_cons (pg_name (i := 2) sc_alike.nd rfl (Or.inl rfl)) (pgs_cons (pg_name (i := 3) sc_alike.nd rfl (Or.inl rfl)) pgs_nil)))) (fun _ _ _ _ _ => pts_nil) (fun _ _ _ _ _ => (pe_call G_alike (hr.mono (by omega)) (by rfl) T.g_alike T.f_alike.kp T.b_alike .nil pass0 (pa_cons (pv 2) (pa_cons (pv 3) pa_nil))))) pa_nil)))))
 pss_nil)
 (pss_one (ps_ret (pe_and (pe_cmpR op_eq (pe_callB call_isi (by rfl) T.isinstance (by decide +kernel) (pa_cons (pv 0) (pa_cons (pe_bltn (v := .ty "bool") (u := .type "bool") (by rfl) T.bool (by decide +kernel) rfl) pa_nil))) (pe_callB call_isi (by rfl) T.isinstance (by decide +kernel) (pa_cons (pv 1) (pa_cons (pe_bltn (v := .ty "bool") (u := .type "bool") (by rfl) T.bool (by decide +kernel) rfl) pa_nil))) (nomark _)) (pe_one (pe_cmpR op_eq (pv 0) (pv 1) (nomark _))))))), ?_⟩
    refine ⟨_, rfl, _, _, .type "str", _, false, rfl, .ty _, .base (.str _), kit_ty (by decide +kernel), _, rfl, iteF ?_⟩
    refine ⟨_, rfl, _, _, .type "str", _, false, rfl, .ty _, .base (.str _), kit_ty (by decide +kernel), _, rfl, _, _, .type "str", _, false, rfl, .ty _, .base (.str _), kit_ty (by decide +kernel), rfl, _, rfl, iteT ⟨_, rfl, _, rfl, rfl, ?_⟩⟩
    exact k
end
end K5
set_option Elab.async false
set_option linter.all false
set_option maxRecDepth 100000
set_option maxHeartbeats 4000000
namespace K5
open PySem L2
local macro_rules | `(tactic| walk_at "rd1") => `(tactic| first
  | refine ⟨_, _, rfl, rfl, ?_⟩
  | refine ⟨_, _, _, _, rfl, rfl, SqL.of (by assumption), rfl, ?_⟩
  | refine ⟨_, _, _, _, rfl, rfl, (by assumption), rfl, ?_⟩
  | refine .inl ⟨_, rfl, ?_⟩
  | refine ⟨_, rfl, ?_⟩
  | refine ⟨(by unfold CMul; omega), ?_⟩
  | refine ⟨(by unfold CPow; omega), ?_⟩
  | refine ⟨(by (try dsimp only); omega), ?_⟩
  | refine ⟨(by unfold CDiv; omega), ?_⟩
  | fail "rd1")
local macro_rules | `(tactic| walk_at "rd") => `(tactic| repeat' (walk_at "rd1"))
section
variable {P : Program} {w : World} {K : PySem.W.Frag} {mg : Str → Option Value} {base : Heap} {A : Ad}
/-- each hangs on the clock or on one of a lesser rank -/
def Acy (rk : Str → Nat) (rows : Rows) : Prop := ∀ k h : Str, (k, h) ∈ rows → h = "clock" ∨ (h ∈ ksR rows ∧ rk h < rk k)
structure ROk (rk : Str → Nat) (rows : Rows) : Prop where
  nd : (ksR rows).Nodup
  nm : ∀ s ∈ ksR rows, Nm s ∧ PyData.strOk s = true
  len : rows.length < 64
  acy : Acy rk rows
  rkb : ∀ s ∈ ksR rows, rk s < 64
theorem ksR_len (rows : Rows) : (ksR rows).length = rows.length := by simp [ksR]
theorem kvR_nd {rows : Rows} (h : (ksR rows).Nodup) : ((kvR rows).map (·.1)).Nodup := by
  rw [kvR_keys]
  exact List.pairwise_map.mpr (h.imp fun n e => n (Sum.inr.inj e))
theorem kvR_at {rows : Rows} {i : Nat} {k : Key} {v : V} (h : (kvR rows)[i]? = some (k, v)) : ∃ a b : Str, k = .inr a ∧ v = .str b ∧ rows[i]? = some (a, b) := by
  unfold kvR at h
  rw [List.getElem?_map] at h
  cases e : rows[i]? with
  | none => rw [e] at h; cases h
  | some r => rw [e] at h; cases h; exact ⟨r.1, r.2, rfl, rfl, rfl⟩
theorem valR {rows : Rows} (nd : (ksR rows).Nodup) {k h : Str} (m : (k, h) ∈ rows) : valV (kvR rows) (.inr k) = some (.str h) := by
  obtain ⟨i, hi, e⟩ := List.getElem_of_mem m
  have : (kvR rows)[i]? = some (.inr k, .str h) := by
    unfold kvR
    rw [List.getElem?_map, List.getElem?_eq_getElem hi, e]; rfl
  exact valV_at (kvR_nd nd) this
theorem memR {rows : Rows} {k : Str} (m : k ∈ ksR rows) : ∃ h, (k, h) ∈ rows := by
  obtain ⟨r, hr, e⟩ := List.mem_map.mp m
  exact ⟨r.2, by rw [← e]; exact hr⟩
theorem memK {rows : Rows} {k h : Str} (m : (k, h) ∈ rows) : k ∈ ksR rows := List.mem_map.mpr ⟨_, m, rfl⟩
def spHook : Sp := fun vs H Q _ => ∃ (h : Str) (d : Addr) (od : Obj) (kvs : List (Key × V)) (ks : List Str), vs = [.str h, .ref d] ∧ H d = some (.frz od (.dK kvs)) ∧ kvs.map (·.1) = ks.map Sum.inr ∧ ks.length < 64 ∧ (h = "clock" ∨ h ∈ ks) ∧ ∀ H', Same H H' → Q (.bl true) H'
theorem ok_hook (T : Txt K mg A) : FnOk P w K mg base CX0 2 A.a_is_hook A.d_is_hook P_is_hook spHook := by
  have G_alike : FnOk P w K mg base CX0 1 A.a_alike A.d_alike P_alike spAlike := ok_alike T
  refine T.f_is_hook.ok sc_is_hook (fun vs H Q E h => ?_) (fun cdv A' outer s H vs Q E hr h => ?_)
  · obtain ⟨h, d, od, kvs, ks, rfl, _⟩ := h
    rfl
  · obtain ⟨h, d, od, kvs, ks, rfl, hd, hks, hl, hh, k⟩ := h
    refine ⟨_, (pss_one (ps_ret (pe_or (pe_cmpR op_eq (pv 0) (pe_glob (v := .str "clock") (by rfl) T.g_CLOCK.choose_spec ⟨_, rfl⟩) (nomark _)) (pe_one (pe_callB (cr_any rfl) (by rfl) T.any (by decide +kernel) (pa_cons (pe_lc (own := [("key", 2)]) (g := gName 2) (by rfl) sc_is_hook.nd (pi_keys (pv 1)) (blkOk_by (N := N_is_hook) (sc := defScope s_is_hook) (by decide +kernel)) (fun _ _ _ _ _ => pg_name (i := 2) sc_is_hook.nd rfl (Or.inl rfl)) (fun _ _ _ _ _ => pts_nil) (fun _ _ _ _ _ => (pe_call G_alike (hr.mono (by omega)) (by rfl) T.g_alike T.f_alike.kp T.b_alike .nil pass0 (pa_cons (pv 0) (pa_cons (pv 2) pa_nil))))) pa_nil)))))), ?_⟩
    refine ⟨_, rfl, rfl, _, rfl, ite2 (fun q => k _ (Same.refl _)) (fun q => ?_)⟩
    have hm : h ∈ ks := hh.resolve_left fun e => q (by rw [e]; rfl)
    have hlen : kvs.length = ks.length := by have := congrArg List.length hks; rwa [List.length_map, List.length_map] at this
    refine ⟨_, rfl, d, od, rfl, .inl ⟨kvs, hd, fun D hD => lc_it walk_keys (fun i H' => Same H H' ∧ H' D = some (.lst (((ks.take i).map fun k => decide (V.str h = V.str k)).map V.bl))) ⟨Same.new hD, upd_same⟩ (fun i H' _ z => z.1 _ _ hd) ?_ (fun H' z => ?_)⟩⟩
    · rintro i x H' H'' hi ⟨s1, hD'⟩ ⟨rfl, key, v, hk, rfl⟩
      have hi2 : i < ks.length := by rw [← hlen]; exact hi
      have ek : (kvs.map (·.1))[i]? = some key := by rw [List.getElem?_map, hk]; rfl
      rw [hks, List.getElem?_map, List.getElem?_eq_getElem hi2] at ek
      obtain rfl : Sum.inr ks[i] = key := Option.some.inj ek
      refine ⟨rfl, _, rfl, _, rfl, h, ks[i], rfl, _, hD', ?_, ?_, ?_⟩
      · rw [List.length_map, List.length_map, List.length_take]
        exact Nat.lt_of_le_of_lt (show min i _ ≤ 64 by omega) (by decide)
      · exact fun b u e => by rw [upd_ne (ne_of_none e hD)]; exact s1 _ _ e
      · rw [upd_same, List.take_succ, List.getElem?_eq_getElem hi2, List.map_append, List.map_append]; rfl
    · obtain ⟨s1, hD'⟩ := z
      refine ⟨D, _, rfl, SqL.of hD', ?_⟩
      have e : (((ks.take kvs.length).map fun k => decide (V.str h = V.str k)).any id) = true := by
        rw [List.take_of_length_le (by omega), List.any_map, List.any_eq_true]
        exact ⟨h, hm, decide_eq_true rfl⟩
      rw [e]
      exact k _ s1
def spChkR : Sp := fun vs H Q _ => ∃ (dd : Addr) (rk : Str → Nat) (rows : Rows), vs = [.ref dd] ∧ H dd = some (.dK (kvR rows)) ∧ ROk rk rows ∧ ∀ H', Same H H' → Q .non H'
theorem ok_chkr (T : Txt K mg A) : FnOk P w K mg base CX0 3 A.a_check_rows A.d_check_rows P_check_rows spChkR := by
  have G_is_name : FnOk P w K mg base CX0 1 A.a_is_name A.d_is_name P_is_name spIsName := ok_isname T
  have G_is_hook : FnOk P w K mg base CX0 2 A.a_is_hook A.d_is_hook P_is_hook spHook := ok_hook T
  refine T.f_check_rows.ok sc_check_rows (fun vs H Q E h => ?_) (fun cdv A' outer s H vs Q E hr h => ?_)
  · obtain ⟨dd, rk, rows, rfl, _⟩ := h
    rfl
  · obtain ⟨dd, rk, rows, rfl, hd, hO, k⟩ := h
    refine ⟨_, (pss_one (ps_lock (ps_for PassesOwn.never rfl (pi_keys (pv 0)) (pg_name (i := 1) sc_check_rows.nd rfl (Or.inl rfl))
 (pss_one (ps_if (PW.pt (pw_or (pt_not (pt_val (pe_call G_is_name (hr.mono (by omega)) (by rfl) T.g_is_name T.f_is_name.kp T.b_is_name .nil pass0 (pa_cons (pv 1) pa_nil)))) (pw_or1 (pt_not (pt_val (pe_call G_is_hook (hr.mono (by omega)) (by rfl) T.g_is_hook T.f_is_hook.kp T.b_is_hook .nil pass0 (pa_cons (pe_dget (hu_of hr) (pv 0) (pv 1) (fun _ _ => rfl)) (pa_cons (pv 0) pa_nil))))))))
 (pss_one ps_never)
 pss_nil))))), ?_⟩
    refine ⟨dd, _, hd, trivial, fun od => ?_⟩
    refine ⟨_, rfl, dd, od, rfl, .inl ⟨kvR rows, upd_same, for_it walk_keys (fun i σ' H' => ∃ x, σ' = [some (.ref dd), x] ∧ Same (upd H dd (.frz od (.dK (kvR rows)))) H') ⟨none, rfl, Same.refl _⟩ (fun i σ' H' _ ⟨_, _, s⟩ => s _ _ upd_same) ?_ ?_⟩⟩
    · rintro i x σ' H' H'' hi ⟨y, rfl, s1⟩ ⟨rfl, key, v, hk, rfl⟩
      obtain ⟨a, b, rfl, rfl, hr2⟩ := kvR_at hk
      have hm := List.mem_of_getElem? hr2
      refine ⟨_, rfl, a, rfl, (hO.nm a (memK hm)).1, fun H2 s2 => ⟨_, rfl, iteF ?_⟩⟩
      have hd2 : H2 dd = some (.frz od (.dK (kvR rows))) := s2 _ _ (s1 _ _ upd_same)
      refine ⟨_, rfl, _, rfl, dd, .str b, rfl, .inl ⟨kvR rows, .inr a, .inr ⟨od, hd2⟩, rfl, (valR hO.nd hm).symm⟩, _, rfl, b, dd, od, _, ksR rows, rfl, hd2, kvR_keys rows, by rw [ksR_len]; exact hO.len, (hO.acy a b hm).imp_right And.left, fun H3 s3 => ⟨_, rfl, iteF ?_⟩⟩
      exact ⟨_, rfl, (s1.trans s2).trans s3⟩
    · rintro σ' H' ⟨x, rfl, s1⟩
      refine ⟨s1 _ _ upd_same, k _ fun b u e => ?_⟩
      by_cases hb : b = dd
      · subst hb
        rw [hd] at e
        cases e
        exact upd_same
      · rw [upd_ne hb]
        exact s1 _ _ (by rw [upd_ne hb]; exact e)
end
end K5
set_option Elab.async false
set_option linter.all false
set_option maxRecDepth 100000
set_option maxHeartbeats 4000000
namespace K5
open PySem L2
local macro_rules | `(tactic| walk_at "rd1") => `(tactic| first
  | refine ⟨_, _, rfl, rfl, ?_⟩
  | refine ⟨_, _, _, _, rfl, rfl, SqL.of (by assumption), rfl, ?_⟩
  | refine ⟨_, _, _, _, rfl, rfl, (by assumption), rfl, ?_⟩
  | refine .inl ⟨_, rfl, ?_⟩
  | refine ⟨_, rfl, ?_⟩
  | refine ⟨(by unfold CMul; omega), ?_⟩
  | refine ⟨(by unfold CPow; omega), ?_⟩
  | refine ⟨(by (try dsimp only); omega), ?_⟩
  | refine ⟨(by unfold CDiv; omega), ?_⟩
  | fail "rd1")
local macro_rules | `(tactic| walk_at "rd") => `(tactic| repeat' (walk_at "rd1"))
section
variable {P : Program} {w : World} {K : PySem.W.Frag} {mg : Str → Option Value} {base : Heap} {A : Ad}
/-- what a climb may stand at, below the dish nm -/
def At (rk : Str → Nat) (rows : Rows) (nm h : Str) : Prop := h = "clock" ∨ (h ∈ ksR rows ∧ rk h < rk nm)
def msr (rk : Str → Nat) (h : Str) : Nat := if h = "clock" then 0 else rk h + 1
def spFrom : Sp := fun vs H Q _ => ∃ (nm : Str) (d : Addr) (rk : Str → Nat) (rows : Rows), vs = [.str nm, .ref d] ∧ H d = some (.dK (kvR rows)) ∧ ROk rk rows ∧ nm ∈ ksR rows ∧
  ∀ (p : Addr) (H' : Hp), Same H H' → H p = none → H' p = some (.lst []) → Q (.ref p) H'
theorem ok_from (T : Txt K mg A) : FnOk P w K mg base CX0 1 A.a_round_from A.d_round_from P_round_from spFrom := by
  refine T.f_round_from.ok sc_round_from (fun vs H Q E h => ?_) (fun cdv A' outer s H vs Q E hr h => ?_)
  · obtain ⟨nm, d, rk, rows, rfl, _⟩ := h
    rfl
  · obtain ⟨nm, d, rk, rows, rfl, hd, hO, hn, k⟩ := h
    refine ⟨_, (pss_cons (ps_set (i := 2) sc_round_from.nd rfl (Or.inl rfl) (pe_lst (pa_cons (pv 0) pa_nil)))
 (pss_cons (ps_set (i := 3) sc_round_from.nd rfl (Or.inl rfl) (pe_dget (hu_of hr) (pv 1) (pv 0) (fun _ _ => rfl)))
 (pss_cons (ps_while PassesOwn.never (PW.pt (pw_and (pt_cmpR op_ne (pv 3) (pe_glob (v := .str "clock") (by rfl) T.g_CLOCK.choose_spec ⟨_, rfl⟩) (nomark _)) (pw_and (pt_cmpR op_ne (pv 3) (pv 0) (nomark _)) (pw_and1 (pt_cmpR op_lt (pe_callB call_len_seq (by rfl) T.len PySem.boot_len (pa_cons (pv 2) pa_nil)) (pe_callB call_lenD (by rfl) T.len PySem.boot_len (pa_cons (pv 1) pa_nil)) (nomark _))))))
 (pss_cons (ps_expr (pe_bm PySem.F.plainAttrs_list PySem.F.slot_list_append PySem.F.type_list_append mt_append (pv 2) (pa_cons (pv 3) pa_nil)))
 (pss_one (ps_set (i := 3) sc_round_from.nd rfl (Or.inl rfl) (pe_dget (hu_of hr) (pv 1) (pv 3) (fun _ _ => rfl))))))
 (pss_one (ps_ret (pe_ifExp (pt_cmpR op_eq (pv 3) (pv 0) (nomark _)) (pv 2) (pe_lst pa_nil))))))), ?_⟩
    obtain ⟨h0, hm0⟩ := memR hn
    refine ⟨_, rfl, by show 1 ≤ sizeLine; decide, fun p hp => ?_⟩
    have s0 : Same H (upd H p (.lst [.str nm])) := Same.new hp
    refine ⟨_, rfl, _, rfl, d, _, rfl, .inl ⟨kvR rows, .inr nm, .inl (s0 _ _ hd), rfl, (valR hO.nd hm0).symm⟩, ?_⟩
    have npd : d ≠ p := ne_of_none hd hp
    refine while_ex (fun mm σ' H' => ∃ (xs : List V) (h : Str), σ' = [some (.str nm), some (.ref d), some (.ref p), some (.str h)] ∧ Same H H' ∧ H' p = some (.lst xs) ∧ At rk rows nm h ∧ mm = msr rk h)
      (fun σ' H' => ∃ (h : Str), σ' = [some (.str nm), some (.ref d), some (.ref p), some (.str h)] ∧ Same H H' ∧ At rk rows nm h)
      ⟨_, h0, rfl, s0, upd_same, hO.acy _ _ hm0, rfl⟩ (fun nx hnx => ?_) ?_
    · rintro mm σ' H' ⟨xs, h, rfl, s1, hp1, hat, rfl⟩
      refine ⟨_, rfl, rfl, _, rfl, ite2 (fun c1 => ?_) (fun _ => hnx _ _ ⟨h, rfl, s1, hat⟩)⟩
      have hne : h ≠ "clock" := fun e => by rw [e] at c1; cases c1
      obtain ⟨hin, hlt⟩ := hat.resolve_left hne
      refine ⟨_, rfl, _, rfl, rfl, _, rfl, ite2 (fun c2 => ?_) (fun _ => hnx _ _ ⟨h, rfl, s1, hat⟩)⟩
      refine ⟨_, rfl, _, _, rfl, .inl (SqL.of hp1), _, rfl, d, _, rfl, s1 _ _ hd, _, _, rfl, rfl, _, rfl, ite2 (fun c3 => ?_) (fun _ => hnx _ _ ⟨h, rfl, s1, hat⟩)⟩
      have hl : xs.length < 64 := by
        have q := of_decide_eq_true c3
        have := hO.len
        rw [kvR_len] at q
        omega
      obtain ⟨h2, hm2⟩ := memR hin
      refine ⟨_, fun _ _ z => z, ?_⟩
      refine ⟨_, rfl, .inl ⟨rfl, _, SqL.of hp1⟩, _, rfl, _, _, _, rfl, rfl, hp1, Nat.lt_of_lt_of_le hl (by decide), ?_⟩
      have s2 : Same H (upd H' p (.lst (xs ++ [.str h]))) := fun b u e => by rw [upd_ne (ne_of_none e hp)]; exact s1 _ _ e
      refine ⟨_, rfl, _, rfl, d, _, rfl, .inl ⟨kvR rows, .inr h, .inl (s2 _ _ hd), rfl, (valR hO.nd hm2).symm⟩, ?_⟩
      refine ⟨msr rk h2, ?_, _, h2, rfl, s2, upd_same, ?_, rfl⟩
      · unfold msr
        rw [if_neg hne]
        rcases hO.acy _ _ hm2 with e | e
        · rw [if_pos e]; omega
        · split
          · omega
          · have := e.2; omega
      · exact (hO.acy _ _ hm2).imp_right fun e => ⟨e.1, Nat.lt_trans e.2 hlt⟩
    · rintro σ' H' ⟨h, rfl, s1, hat⟩
      have hne : h ≠ nm := fun e => by
        rcases hat with q | q
        · exact (hO.nm nm hn).1.noclock (e.symm.trans q)
        · rw [e] at q; exact Nat.lt_irrefl _ q.2
      refine ⟨_, rfl, _, rfl, rfl, _, rfl, ite2 (fun q => absurd (V.str.inj (of_decide_eq_true q)) hne) (fun _ => ⟨Nat.zero_le _, fun q hq => ?_⟩)⟩
      exact k q _ (s1.trans (Same.new hq)) (s1.free hq) upd_same
def spRounds : Sp := fun vs H Q _ => ∃ (dd : Addr) (rk : Str → Nat) (rows : Rows), vs = [.ref dd] ∧ H dd = some (.dK (kvR rows)) ∧ ROk rk rows ∧ ∀ H', Same H H' → Q .non H'
theorem ok_rounds (T : Txt K mg A) : FnOk P w K mg base CX0 2 A.a_check_rounds A.d_check_rounds P_check_rounds spRounds := by
  have G_round_from : FnOk P w K mg base CX0 1 A.a_round_from A.d_round_from P_round_from spFrom := ok_from T
  refine T.f_check_rounds.ok sc_check_rounds (fun vs H Q E h => ?_) (fun cdv A' outer s H vs Q E hr h => ?_)
  · obtain ⟨dd, rk, rows, rfl, _⟩ := h
    rfl
  · obtain ⟨dd, rk, rows, rfl, hd, hO, k⟩ := h
    refine ⟨_, (pss_one (ps_for PassesOwn.never rfl (pi_list (pe_callB (call_sortedD rfl) (by rfl) T.sorted (by decide +kernel) (pa_cons (pv 0) pa_nil))) (pg_name (i := 1) sc_check_rounds.nd rfl (Or.inl rfl))
 (pss_cons (ps_set (i := 2) sc_check_rounds.nd rfl (Or.inl rfl) (pe_call G_round_from (hr.mono (by omega)) (by rfl) T.g_round_from T.f_round_from.kp T.b_round_from .nil pass0 (pa_cons (pv 1) (pa_cons (pv 0) pa_nil))))
 (pss_one (ps_if (pt_truth (pv 2) (by intro _; rfl))
 (pss_one ps_never)
 pss_nil))))), ?_⟩
    refine ⟨_, rfl, dd, _, ksR rows, rfl, .inl hd, kvR_keys rows, by rw [ksR_len]; exact hO.len, fun ys q hperm _ hq => ?_⟩
    refine ⟨q, rfl, ⟨_, SqL.of upd_same⟩, for_it walk_list (fun i σ' H' => ∃ x y, σ' = [some (.ref dd), x, y] ∧ Same (upd H q (.lst (ys.map V.str))) H') ⟨_, _, rfl, Same.refl _⟩ (fun i σ' H' _ z => SqL.of (z.choose_spec.choose_spec.2 _ _ upd_same)) ?_ ?_⟩
    · rintro i v σ' H' H'' hi ⟨x, y, rfl, s1⟩ ⟨rfl, hx⟩
      obtain ⟨hi, rfl⟩ := str_at hx
      have S1 : Same H H'' := (Same.new hq).trans s1
      refine ⟨_, rfl, _, rfl, ys[i], dd, rk, rows, rfl, S1 _ _ hd, hO, hperm.mem_iff.mp (List.getElem_mem hi), fun p H3 s3 hp hp3 => ?_⟩
      refine ⟨_, rfl, false, ?_, iteF ?_⟩
      · exact .inl ⟨_, SqL.of hp3, rfl⟩
      · exact ⟨_, _, rfl, s1.trans s3⟩
    · rintro σ' H' ⟨x, y, rfl, s1⟩
      exact k _ ((Same.new hq).trans s1)
end
end K5
set_option Elab.async false
set_option linter.all false
set_option maxRecDepth 100000
set_option maxHeartbeats 4000000
namespace K5
open PySem L2
local macro_rules | `(tactic| walk_at "rd1") => `(tactic| first
  | refine ⟨_, _, rfl, rfl, ?_⟩
  | refine ⟨_, _, _, _, rfl, rfl, SqL.of (by assumption), rfl, ?_⟩
  | refine ⟨_, _, _, _, rfl, rfl, (by assumption), rfl, ?_⟩
  | refine .inl ⟨_, rfl, ?_⟩
  | refine ⟨_, rfl, ?_⟩
  | refine ⟨(by unfold CMul; omega), ?_⟩
  | refine ⟨(by unfold CPow; omega), ?_⟩
  | refine ⟨(by (try dsimp only); omega), ?_⟩
  | refine ⟨(by unfold CDiv; omega), ?_⟩
  | fail "rd1")
local macro_rules | `(tactic| walk_at "rd") => `(tactic| repeat' (walk_at "rd1"))
section
variable {P : Program} {w : World} {K : PySem.W.Frag} {mg : Str → Option Value} {base : Heap} {A : Ad}
/-- the same rows, ascending -/
structure Asc (rows rs : Rows) : Prop where
  keys : (ksR rs).Perm (ksR rows)
  mem : ∀ k h, (k, h) ∈ rs → (k, h) ∈ rows
  asc : PyProof.Rows.sortedS (ksR rs) = true
theorem Asc.ok {rk : Str → Nat} {rows rs : Rows} (a : Asc rows rs) (h : ROk rk rows) : ROk rk rs := by
  have l := a.keys.length_eq
  rw [ksR_len, ksR_len] at l
  exact ⟨a.keys.nodup_iff.mpr h.nd, fun s m => h.nm s (a.keys.mem_iff.mp m), by rw [l]; exact h.len, fun k b m => (h.acy k b (a.mem k b m)).imp_right fun e => ⟨a.keys.mem_iff.mpr e.1, e.2⟩, fun s m => h.rkb s (a.keys.mem_iff.mp m)⟩
/-- an instance of Hanging at p -/
structure HgAt (C : Addr) (H : Hp) (p q : Addr) (rs : Rows) : Prop where
  ex : ∃ dx, H p = some (.ins C dx [("hooks", .ref q)])
  at_ : H q = some (.dK (kvR rs))
theorem HgAt.up {C : Addr} {H H' : Hp} {p q : Addr} {rs : Rows} (h : HgAt C H p q rs) (s : Same H H') : HgAt C H' p q rs := ⟨h.ex.imp fun _ e => s _ _ e, s _ _ h.at_⟩
def spHInit (C : Addr) : Sp := fun vs H Q _ => ∃ (p dx dd : Addr) (rk : Str → Nat) (rows : Rows), vs = [.ref p, .ref dd] ∧ H p = some (.ins C dx []) ∧ H dd = some (.dK (kvR rows)) ∧ ROk rk rows ∧
  ∀ (H' : Hp) (q : Addr) (rs : Rows), HgAt C H' p q rs → H q = none → Asc rows rs → Same (er H p) (er H' p) → Q .non H'
theorem ok_hinit (T : Txt K mg A) : FnOk P w K mg base CX0 4 A.a_Hanging___init__ A.d_Hanging___init__ P_Hanging___init__ (spHInit A.a_Hanging) := by
  have G_check_rows : FnOk P w K mg base CX0 3 A.a_check_rows A.d_check_rows P_check_rows spChkR := ok_chkr T
  have G_check_rounds : FnOk P w K mg base CX0 2 A.a_check_rounds A.d_check_rounds P_check_rounds spRounds := ok_rounds T
  refine T.f_Hanging___init__.ok sc_Hanging___init__ (fun vs H Q E h => ?_) (fun cdv A' outer s H vs Q E hr h => ?_)
  · obtain ⟨p, dx, dd, rk, rows, rfl, _⟩ := h
    rfl
  · obtain ⟨p, dx, dd, rk, rows, rfl, hp, hd, hO, k⟩ := h
    refine ⟨_, PSs.nox (pss_cons (ps_expr (pe_call G_check_rows (hr.mono (by omega)) (by rfl) T.g_check_rows T.f_check_rows.kp T.b_check_rows .nil pass0 (pa_cons (pv 1) pa_nil)))
 (pss_cons (ps_expr (pe_call G_check_rounds (hr.mono (by omega)) (by rfl) T.g_check_rounds T.f_check_rounds.kp T.b_check_rounds .nil pass0 (pa_cons (pv 1) pa_nil)))
 (pss_one (ps_fld (pv 0) (pe_dc (own := [("name", 2)]) (g := gName 2) (by rfl) sc_Hanging___init__.nd (pi_list (pe_callB (call_sortedD rfl) (by rfl) T.sorted (by decide +kernel) (pa_cons (pv 1) pa_nil))) (blkOk_by (N := N_Hanging___init__) (sc := defScope s_Hanging___init__) (by decide +kernel)) (fun _ _ _ _ _ => pg_name (i := 2) sc_Hanging___init__.nd rfl (Or.inl rfl)) (fun _ _ _ _ _ => pts_nil) (fun _ _ _ _ _ => (pv 2)) (fun _ _ _ _ _ => (pe_dget (hu_of hr) (pv 1) (pv 2) (fun _ _ => rfl)))) rfl)))), ?_⟩
    have npd : dd ≠ p := ne_of hd hp (fun z => nomatch z)
    refine ⟨_, rfl, dd, rk, rows, rfl, hd, hO, fun H1 s1 => ?_⟩
    refine ⟨_, rfl, dd, rk, rows, rfl, s1 _ _ hd, hO, fun H2 s2 => ?_⟩
    have S2 := s1.trans s2
    have hd2 := S2 _ _ hd
    refine ⟨_, rfl, dd, _, ksR rows, rfl, .inl hd2, kvR_keys rows, by rw [ksR_len]; exact hO.len, fun ys q hperm hsort hq => ?_⟩
    have yN : ys.Nodup := hperm.nodup_iff.mpr hO.nd
    have yl : ys.length < 64 := by rw [hperm.length_eq, ksR_len]; exact hO.len
    refine ⟨q, rfl, ⟨_, SqL.of upd_same⟩, fun D hD => fillD walk_list (fun i H' => Same (upd H2 q (.lst (ys.map V.str))) H' ∧ ∃ rs : Rows, H' D = some (.dK (kvR rs)) ∧ ksR rs = ys.take i ∧ ∀ k h, (k, h) ∈ rs → (k, h) ∈ rows) ⟨Same.new hD, [], upd_same, rfl, fun _ _ m => by cases m⟩ (fun i H' _ h => SqL.of (h.1 _ _ upd_same)) ?_ (fun H4 h4 => ?_)⟩
    · rintro i x H' H'' hi ⟨s4, rs, hrs, hks, hsub⟩ ⟨rfl, hx⟩
      obtain ⟨hi, rfl⟩ := str_at hx
      have hm : ys[i] ∈ ksR rows := hperm.mem_iff.mp (List.getElem_mem hi)
      obtain ⟨h, hh⟩ := memR hm
      have S4 : Same H H'' := S2.trans ((Same.new hq).trans s4)
      have kl : rs.length = i := by
        have := congrArg List.length hks
        rw [ksR_len, List.length_take] at this
        omega
      have hk : (Sum.inr ys[i] : Key) ∉ (kvR rs).map (·.1) := by
        rw [kvR_keys, hks]
        intro m
        obtain ⟨z, hz, ez⟩ := List.mem_map.mp m
        exact not_in_take yN hi (by rw [← Sum.inr.inj ez]; exact hz)
      refine ⟨rfl, _, rfl, _, rfl, _, rfl, dd, .str h, rfl, .inl ⟨kvR rows, .inr ys[i], .inl (S4 _ _ hd), rfl, (valR hO.nd hh).symm⟩, kvR rs, .inr ys[i], rfl, hrs, ?_, ?_, ?_⟩
      · rw [kvR_len, kl]; exact Nat.lt_of_lt_of_le (show i < 65 by omega) (by decide)
      · exact fun c u e => by rw [upd_ne (ne_of_none e hD)]; exact s4 _ _ e
      · rw [put_new _ _ _ hk, ← kvR_app]
        refine ⟨_, upd_same, ?_, fun a b m => ?_⟩
        · rw [ksR_app, hks, List.take_succ, List.getElem?_eq_getElem hi]; rfl
        · rcases List.mem_append.mp m with m | m
          · exact hsub a b m
          · cases List.mem_singleton.mp m; exact hh
    · obtain ⟨s4, rs, hrs, hks, hsub⟩ := h4
      rw [List.length_map, List.take_length] at hks
      have S4 : Same H H4 := S2.trans ((Same.new hq).trans s4)
      have hp4 := S4 _ _ hp
      have nDp : D ≠ p := fun e => by rw [e, hp4] at hrs; cases hrs
      refine ⟨_, rfl, p, A.a_Hanging, dx, _, rfl, hp4, T.cl, T.nH, by decide, ?_⟩
      refine k _ D rs ⟨⟨dx, upd_same⟩, by rw [upd_ne nDp]; exact hrs⟩ (((S2.trans (Same.new hq))).free hD) ⟨by rw [hks]; exact hperm, hsub, by rw [hks]; exact hsort⟩ ?_
      rw [er_upd]; exact er_mono S4
end
end K5
set_option Elab.async false
set_option linter.all false
set_option maxRecDepth 100000
set_option maxHeartbeats 4000000
namespace K5
open PySem L2
local macro_rules | `(tactic| walk_at "rd1") => `(tactic| first
  | refine ⟨_, _, rfl, rfl, ?_⟩
  | refine ⟨_, _, _, _, rfl, rfl, SqL.of (by assumption), rfl, ?_⟩
  | refine ⟨_, _, _, _, rfl, rfl, (by assumption), rfl, ?_⟩
  | refine .inl ⟨_, rfl, ?_⟩
  | refine ⟨_, rfl, ?_⟩
  | refine ⟨(by unfold CMul; omega), ?_⟩
  | refine ⟨(by unfold CPow; omega), ?_⟩
  | refine ⟨(by (try dsimp only); omega), ?_⟩
  | refine ⟨(by unfold CDiv; omega), ?_⟩
  | fail "rd1")
local macro_rules | `(tactic| walk_at "rd") => `(tactic| repeat' (walk_at "rd1"))
section
variable {P : Program} {w : World} {K : PySem.W.Frag} {mg : Str → Option Value} {base : Heap} {A : Ad}
theorem idx_of_take {ks : List Str} (nd : ks.Nodup) {i : Nat} {k : Str} (h : ks[i]? = some k) : ks.idxOf k = i := by
  obtain ⟨hi, e⟩ := List.getElem?_eq_some_iff.mp h
  have hm : k ∈ ks := by rw [← e]; exact List.getElem_mem hi
  have l1 := List.idxOf_lt_length_of_mem hm
  have e1 : ks[ks.idxOf k] = ks[i] := by rw [List.getElem_idxOf]; exact e.symm
  exact (List.getElem_inj nd).mp e1
theorem idx_lt {ks : List Str} (nd : ks.Nodup) {i : Nat} {h : Str} (m : h ∈ ks.take i) : ks.idxOf h < i := by
  obtain ⟨j, hj, e⟩ := List.getElem_of_mem m
  rw [List.length_take] at hj
  rw [List.getElem_take] at e
  have q : ks[j]? = some h := by rw [List.getElem?_eq_getElem (by omega), e]
  rw [idx_of_take nd q]
  omega
theorem ROk.tree {rows : Rows} (nd : (ksR rows).Nodup) (nm : ∀ s ∈ ksR rows, Nm s ∧ PyData.strOk s = true) (len : rows.length < 64) (t : Tree rows) : ROk (fun s => (ksR rows).idxOf s) rows := by
  refine ⟨nd, nm, len, fun k h m => ?_, fun s m => Nat.lt_trans (List.idxOf_lt_length_of_mem m) (by rw [ksR_len]; exact len)⟩
  obtain ⟨i, hi, e⟩ := List.getElem_of_mem m
  have q : rows[i]? = some (k, h) := by rw [List.getElem?_eq_getElem hi, e]
  refine (t i k h q).imp_right fun m2 => ?_
  have m3 : h ∈ (ksR rows).take i := by
    unfold ksR at m2 ⊢
    rw [← List.map_take]; exact m2
  refine ⟨List.mem_of_mem_take m3, ?_⟩
  show (ksR rows).idxOf h < (ksR rows).idxOf k
  have qk : (ksR rows)[i]? = some k := by unfold ksR; rw [List.getElem?_map, q]; rfl
  rw [idx_of_take nd qk]
  exact idx_lt nd m3
end
end K5
set_option Elab.async false
set_option linter.all false
set_option maxRecDepth 100000
set_option maxHeartbeats 4000000
namespace K5
open PySem L2
local macro_rules | `(tactic| walk_at "rd1") => `(tactic| first
  | refine ⟨_, _, rfl, rfl, ?_⟩
  | refine ⟨_, _, _, _, rfl, rfl, SqL.of (by assumption), rfl, ?_⟩
  | refine ⟨_, _, _, _, rfl, rfl, (by assumption), rfl, ?_⟩
  | refine .inl ⟨_, rfl, ?_⟩
  | refine ⟨_, rfl, ?_⟩
  | refine ⟨(by unfold CMul; omega), ?_⟩
  | refine ⟨(by unfold CPow; omega), ?_⟩
  | refine ⟨(by (try dsimp only); omega), ?_⟩
  | refine ⟨(by unfold CDiv; omega), ?_⟩
  | fail "rd1")
local macro_rules | `(tactic| walk_at "rd") => `(tactic| repeat' (walk_at "rd1"))
section
variable {P : Program} {w : World} {K : PySem.W.Frag} {mg : Str → Option Value} {base : Heap} {A : Ad}
def rowsF (ns : List Str) (hk : Str → Str) : Rows := ns.map fun n => (n, hk n)
theorem kvR_F (ns : List Str) (hk : Str → Str) : kvR (rowsF ns hk) = kvF ns fun n => .str (hk n) := by simp [kvR, rowsF, kvF]
theorem ksR_F (ns : List Str) (hk : Str → Str) : ksR (rowsF ns hk) = ns := by unfold ksR rowsF; rw [List.map_map]; exact List.map_id _
theorem rows_fn {rows : Rows} (nd : (ksR rows).Nodup) : ∃ hk : Str → Str, rows = rowsF (ksR rows) hk := by
  refine ⟨fun y => match valV (kvR rows) (.inr y) with | some (.str h) => h | _ => y, ?_⟩
  have key : ∀ l : Rows, (∀ r ∈ l, r ∈ rows) → l = rowsF (ksR l) fun y => match valV (kvR rows) (.inr y) with | some (.str h) => h | _ => y := fun l => by
    induction l with
    | nil => intro _; rfl
    | cons r l ih =>
      intro hm
      have e := ih fun r h => hm r (List.mem_cons_of_mem _ h)
      have m : (r.1, r.2) ∈ rows := hm _ (List.mem_cons_self ..)
      show r :: l = (r.1, match valV (kvR rows) (.inr r.1) with | some (.str h) => h | _ => r.1) :: rowsF (ksR l) _
      rw [valR nd m, ← e]
  exact key rows fun _ h => h
theorem mem_F {ns : List Str} {hk : Str → Str} {n : Str} (m : n ∈ ns) : (n, hk n) ∈ rowsF ns hk := List.mem_map.mpr ⟨n, m, rfl⟩
theorem of_mem_F {ns : List Str} {hk : Str → Str} {n h : Str} (m : (n, h) ∈ rowsF ns hk) : n ∈ ns ∧ h = hk n := by
  obtain ⟨k, hk2, e⟩ := List.mem_map.mp m
  cases e
  exact ⟨hk2, rfl⟩
end
end K5
set_option Elab.async false
set_option linter.all false
set_option maxRecDepth 100000
set_option maxHeartbeats 4000000
namespace K5
open PySem L2
local macro_rules | `(tactic| walk_at "rd1") => `(tactic| first
  | refine ⟨_, _, rfl, rfl, ?_⟩
  | refine ⟨_, _, _, _, rfl, rfl, SqL.of (by assumption), rfl, ?_⟩
  | refine ⟨_, _, _, _, rfl, rfl, (by assumption), rfl, ?_⟩
  | refine .inl ⟨_, rfl, ?_⟩
  | refine ⟨_, rfl, ?_⟩
  | refine ⟨(by unfold CMul; omega), ?_⟩
  | refine ⟨(by unfold CPow; omega), ?_⟩
  | refine ⟨(by (try dsimp only); omega), ?_⟩
  | refine ⟨(by unfold CDiv; omega), ?_⟩
  | fail "rd1")
local macro_rules | `(tactic| walk_at "rd") => `(tactic| repeat' (walk_at "rd1"))
section
variable {P : Program} {w : World} {K : PySem.W.Frag} {mg : Str → Option Value} {base : Heap} {A : Ad}
def kvW (ys : List Str) (wt : Str → Int) : List (Key × V) := kvF ys fun n => .int (wt n)
structure BkAt (C : Addr) (H : Hp) (p : Addr) (ys : List Str) (hk : Str → Str) (wt : Str → Int) : Prop where
  ex : ∃ (dx qh qw : Addr), H p = some (.ins C dx [("hooks", .ref qh), ("waits", .ref qw)]) ∧ H qh = some (.dK (kvF ys fun n => .str (hk n))) ∧ H qw = some (.dK (kvF ys fun n => .int (wt n)))
theorem BkAt.up {C : Addr} {H H' : Hp} {p : Addr} {ys : List Str} {hk : Str → Str} {wt : Str → Int} (h : BkAt C H p ys hk wt) (s : Same H H') : BkAt C H' p ys hk wt := by
  obtain ⟨dx, qh, qw, h1, h2, h3⟩ := h.ex
  exact ⟨dx, qh, qw, s _ _ h1, s _ _ h2, s _ _ h3⟩
def spIsWait (K : PySem.W.Frag) : Sp := fun vs H Q _ => ∃ (i : Int), vs = [.int i] ∧ 0 ≤ i ∧ Q (.bl true) H
theorem ok_iswait (T : Txt K mg A) : FnOk P w K mg base CX0 2 A.a_is_wait A.d_is_wait P_is_wait (spIsWait K) := by
  have G_is_integer : FnOk P w K mg base CX0 1 A.a_is_integer A.d_is_integer P_is_integer (spIsInt K) := ok_isint T
  refine T.f_is_wait.ok sc_is_wait (fun vs H Q E h => ?_) (fun cdv A' outer s H vs Q E hr h => ?_)
  · obtain ⟨i, rfl, _⟩ := h
    rfl
  · obtain ⟨i, rfl, h0, k⟩ := h
    refine ⟨_, (pss_one (ps_ret (pe_and (pe_call G_is_integer (hr.mono (by omega)) (by rfl) T.g_is_integer T.f_is_integer.kp T.b_is_integer .nil pass0 (pa_cons (pv 0) pa_nil)) (pe_one (pe_cmpR op_ge (pv 0) pe_int (nomark _)))))), ?_⟩
    refine ⟨_, rfl, .int i, .int i, rfl, .int i, _, rfl, iteT ?_⟩
    refine ⟨_, rfl, _, _, rfl, rfl, ?_⟩
    show Q (.bl (decide (0 ≤ i))) H
    rw [decide_eq_true h0]
    exact k
/-- a row of a book: what it hangs on and the wait, in a tuple -/
def spEntry (K : PySem.W.Frag) : Sp := fun vs H Q _ => ∃ (a d : Addr) (od : Obj) (kvs : List (Key × V)) (ks : List Str) (h : Str) (i : Int), vs = [.ref a, .ref d] ∧ SqT K H a [.str h, .int i] ∧ H d = some (.frz od (.dK kvs)) ∧ kvs.map (·.1) = ks.map Sum.inr ∧ ks.length < 64 ∧ (h = "clock" ∨ h ∈ ks) ∧ 0 ≤ i ∧ ∀ H', Same H H' → Q (.bl true) H'
theorem ok_entry (T : Txt K mg A) : FnOk P w K mg base CX0 3 A.a_is_entry A.d_is_entry P_is_entry (spEntry K) := by
  have G_is_list : FnOk P w K mg base CX0 1 A.a_is_list A.d_is_list P_is_list (spIsList K) := ok_islist T
  have G_is_hook : FnOk P w K mg base CX0 2 A.a_is_hook A.d_is_hook P_is_hook spHook := ok_hook T
  have G_is_wait : FnOk P w K mg base CX0 2 A.a_is_wait A.d_is_wait P_is_wait (spIsWait K) := ok_iswait T
  refine T.f_is_entry.ok sc_is_entry (fun vs H Q E h => ?_) (fun cdv A' outer s H vs Q E hr h => ?_)
  · obtain ⟨a, d, od, kvs, ks, h, i, rfl, _⟩ := h
    rfl
  · obtain ⟨a, d, od, kvs, ks, h, i, rfl, ha, hd, hks, hl, hh, h0, k⟩ := h
    refine ⟨_, (pss_cons (ps_if (PW.pt (pw_or (pt_not (pt_val (pe_call G_is_list (hr.mono (by omega)) (by rfl) T.g_is_list T.f_is_list.kp T.b_is_list .nil pass0 (pa_cons (pv 0) pa_nil)))) (pw_or1 (pt_cmpR op_ne (pe_callB call_len_seq (by rfl) T.len PySem.boot_len (pa_cons (pv 0) pa_nil)) pe_int (nomark _)))))
 (pss_one (ps_ret pe_bl))
 pss_nil)
 (pss_cons (ps_asg (pv 0) (pg_tup (by rfl) (pgs_cons (pg_name (i := 2) sc_is_entry.nd rfl (Or.inl rfl)) (pgs_cons (pg_name (i := 3) sc_is_entry.nd rfl (Or.inl rfl)) pgs_nil))))
 (pss_one (ps_ret (pe_and (pe_call G_is_hook (hr.mono (by omega)) (by rfl) T.g_is_hook T.f_is_hook.kp T.b_is_hook .nil pass0 (pa_cons (pv 2) (pa_cons (pv 1) pa_nil))) (pe_one (pe_call G_is_wait (hr.mono (by omega)) (by rfl) T.g_is_wait T.f_is_wait.kp T.b_is_wait .nil pass0 (pa_cons (pv 3) pa_nil)))))))), ?_⟩
    refine ⟨_, rfl, .ref a, .tuple [.str h, .int i], rfl, .tup ha (.cons (.str h) (.cons (.int i) .nil)), fun H1 s1 => ⟨_, rfl, iteF ?_⟩⟩
    have ha1 := stUp ha s1
    refine ⟨_, rfl, a, _, rfl, .inr ha1, rfl, _, rfl, iteF ?_⟩
    refine ⟨_, rfl, a, _, rfl, ha1, rfl, _, _, rfl, _, _, rfl, rfl, ?_⟩
    refine ⟨_, rfl, _, rfl, h, d, od, kvs, ks, rfl, s1 _ _ hd, hks, hl, hh, fun H2 s2 => ⟨_, rfl, iteT ?_⟩⟩
    exact ⟨_, rfl, i, rfl, h0, k _ (s1.trans s2)⟩
end
end K5
set_option Elab.async false
set_option linter.all false
set_option maxRecDepth 100000
set_option maxHeartbeats 4000000
namespace K5
open PySem L2
local macro_rules | `(tactic| walk_at "rd1") => `(tactic| first
  | refine ⟨_, _, rfl, rfl, ?_⟩
  | refine ⟨_, _, _, _, rfl, rfl, SqL.of (by assumption), rfl, ?_⟩
  | refine ⟨_, _, _, _, rfl, rfl, (by assumption), rfl, ?_⟩
  | refine .inl ⟨_, rfl, ?_⟩
  | refine ⟨_, rfl, ?_⟩
  | refine ⟨(by unfold CMul; omega), ?_⟩
  | refine ⟨(by unfold CPow; omega), ?_⟩
  | refine ⟨(by (try dsimp only); omega), ?_⟩
  | refine ⟨(by unfold CDiv; omega), ?_⟩
  | fail "rd1")
local macro_rules | `(tactic| walk_at "rd") => `(tactic| repeat' (walk_at "rd1"))
section
variable {P : Program} {w : World} {K : PySem.W.Frag} {mg : Str → Option Value} {base : Heap} {A : Ad}
theorem unfrz {H H' : Hp} {d : Addr} {u o : HO} (hd : H d = some u) (s : Same (upd H d o) H') : Same H (upd H' d u) := fun b v e => by
  by_cases hb : b = d
  · subst hb; rw [upd_same]; rw [hd] at e; exact e
  · rw [upd_ne hb]; exact s _ _ (by rw [upd_ne hb]; exact e)
def spChkE (K : PySem.W.Frag) : Sp := fun vs H Q _ => ∃ (dd : Addr) (kvs : List (Key × V)) (ns : List Str) (hk : Str → Str) (wt : Str → Int), vs = [.ref dd] ∧ H dd = some (.dK kvs) ∧ Pr2 K H ns (fun n => .str (hk n)) (fun n => .int (wt n)) kvs ∧ ns.Nodup ∧ ns.length < 64 ∧
  (∀ n ∈ ns, Nm n ∧ (hk n = "clock" ∨ hk n ∈ ns) ∧ 0 ≤ wt n) ∧ ∀ H', Same H H' → Q .non H'
theorem ok_chke (T : Txt K mg A) : FnOk P w K mg base CX0 4 A.a_check_entries A.d_check_entries P_check_entries (spChkE K) := by
  have G_is_name : FnOk P w K mg base CX0 1 A.a_is_name A.d_is_name P_is_name spIsName := ok_isname T
  have G_is_entry : FnOk P w K mg base CX0 3 A.a_is_entry A.d_is_entry P_is_entry (spEntry K) := ok_entry T
  refine T.f_check_entries.ok sc_check_entries (fun vs H Q E h => ?_) (fun cdv A' outer s H vs Q E hr h => ?_)
  · obtain ⟨dd, kvs, ns, hk, wt, rfl, _⟩ := h
    rfl
  · obtain ⟨dd, kvs, ns, hk, wt, rfl, hd, hP, nd, hl, hB, k⟩ := h
    refine ⟨_, (pss_one (ps_lock (ps_for PassesOwn.never rfl (pi_keys (pv 0)) (pg_name (i := 1) sc_check_entries.nd rfl (Or.inl rfl))
 (pss_one (ps_if (PW.pt (pw_or (pt_not (pt_val (pe_call G_is_name (hr.mono (by omega)) (by rfl) T.g_is_name T.f_is_name.kp T.b_is_name .nil pass0 (pa_cons (pv 1) pa_nil)))) (pw_or1 (pt_not (pt_val (pe_call G_is_entry (hr.mono (by omega)) (by rfl) T.g_is_entry T.f_is_entry.kp T.b_is_entry .nil pass0 (pa_cons (pe_dget (hu_of hr) (pv 0) (pv 1) (fun _ _ => rfl)) (pa_cons (pv 0) pa_nil))))))))
 (pss_one ps_never)
 pss_nil))))), ?_⟩
    refine ⟨dd, _, hd, trivial, fun od => ?_⟩
    have hPf : Pr2 K (upd H dd (.frz od (.dK kvs))) ns (fun n => .str (hk n)) (fun n => .int (wt n)) kvs := hP.set hd (noTup_dK _)
    refine ⟨_, rfl, dd, od, rfl, .inl ⟨kvs, upd_same, for_it walk_keys (fun i σ' H' => ∃ x, σ' = [some (.ref dd), x] ∧ Same (upd H dd (.frz od (.dK kvs))) H') ⟨none, rfl, Same.refl _⟩ (fun i σ' H' _ ⟨_, _, s⟩ => s _ _ upd_same) ?_ ?_⟩⟩
    · rintro i x σ' H' H'' hi ⟨y, rfl, s1⟩ ⟨rfl, key, v, hkv, rfl⟩
      obtain ⟨hi1, a, rfl, rfl, hq⟩ := hPf.get hkv
      have hm := List.getElem_mem hi1
      obtain ⟨b1, b2, b3⟩ := hB _ hm
      refine ⟨_, rfl, ns[i], rfl, b1, fun H2 s2 => ⟨_, rfl, iteF ?_⟩⟩
      have hd2 : H2 dd = some (.frz od (.dK kvs)) := s2 _ _ (s1 _ _ upd_same)
      obtain ⟨a2, hv, hq2⟩ := hPf.val nd hm
      refine ⟨_, rfl, _, rfl, dd, .ref a2, rfl, .inl ⟨kvs, .inr ns[i], .inr ⟨od, hd2⟩, rfl, hv.symm⟩, _, rfl, a2, dd, od, kvs, ns, hk ns[i], wt ns[i], rfl, stUp hq2 (s1.trans s2), hd2, hP.keys, hl, b2, b3, fun H3 s3 => ⟨_, rfl, iteF ?_⟩⟩
      exact ⟨_, rfl, (s1.trans s2).trans s3⟩
    · rintro σ' H' ⟨x, rfl, s1⟩
      exact ⟨s1 _ _ upd_same, k _ (unfrz hd s1)⟩
def spBInit (K : PySem.W.Frag) (C : Addr) : Sp := fun vs H Q _ => ∃ (p dx dd : Addr) (kvs : List (Key × V)) (ns : List Str) (hk : Str → Str) (wt : Str → Int) (rk : Str → Nat), vs = [.ref p, .ref dd] ∧ H p = some (.ins C dx []) ∧ H dd = some (.dK kvs) ∧
  Pr2 K H ns (fun n => .str (hk n)) (fun n => .int (wt n)) kvs ∧ ROk rk (rowsF ns hk) ∧ (∀ n ∈ ns, 0 ≤ wt n) ∧ ∀ (H' : Hp) (ys : List Str), BkAt C H' p ys hk wt → ys.Perm ns → PyProof.Rows.sortedS ys = true → Same (er H p) (er H' p) → Q .non H'
theorem fld2 (x y : V) : putF "waits" y (putF "hooks" x []) = ([("hooks", x), ("waits", y)] : List (Str × V)) := by
  show (if ("hooks" : Str) = "waits" then _ else _) = _
  rw [if_neg (by decide +kernel)]; rfl
theorem ok_binit (T : Txt K mg A) : FnOk P w K mg base CX0 5 A.a_Book___init__ A.d_Book___init__ P_Book___init__ (spBInit K A.a_Book) := by
  have G_check_entries : FnOk P w K mg base CX0 4 A.a_check_entries A.d_check_entries P_check_entries (spChkE K) := ok_chke T
  have G_check_rounds : FnOk P w K mg base CX0 2 A.a_check_rounds A.d_check_rounds P_check_rounds spRounds := ok_rounds T
  refine T.f_Book___init__.ok sc_Book___init__ (fun vs H Q E h => ?_) (fun cdv A' outer s H vs Q E hr h => ?_)
  · obtain ⟨p, dx, dd, kvs, ns, hk, wt, rk, rfl, _⟩ := h
    rfl
  · obtain ⟨p, dx, dd, kvs, ns, hk, wt, rk, rfl, hp, hd, hP, hO, hW, k⟩ := h
    have kN : ns.Nodup := by have := hO.nd; rwa [ksR_F] at this
    have hl : ns.length < 64 := by have := hO.len; rwa [← ksR_len, ksR_F] at this
    have hB : ∀ n ∈ ns, Nm n ∧ (hk n = "clock" ∨ hk n ∈ ns) ∧ 0 ≤ wt n := fun n m => ⟨(hO.nm n (by rw [ksR_F]; exact m)).1, (hO.acy n _ (mem_F m)).imp_right fun e => by have := e.1; rwa [ksR_F] at this, hW n m⟩
    refine ⟨_, (pss_cons (ps_expr (pe_call G_check_entries (hr.mono (by omega)) (by rfl) T.g_check_entries T.f_check_entries.kp T.b_check_entries .nil pass0 (pa_cons (pv 1) pa_nil)))
 (pss_cons (ps_expr (pe_call G_check_rounds (hr.mono (by omega)) (by rfl) T.g_check_rounds T.f_check_rounds.kp T.b_check_rounds .nil pass0 (pa_cons (pe_lock (pe_dc (own := [("name", 2)]) (g := gName 2) (by rfl) sc_Book___init__.nd (pi_keys (pv 1)) (blkOk_by (N := N_Book___init__) (sc := defScope s_Book___init__) (by decide +kernel)) (fun _ _ _ _ _ => pg_name (i := 2) sc_Book___init__.nd rfl (Or.inl rfl)) (fun _ _ _ _ _ => pts_nil) (fun _ _ _ _ _ => (pv 2)) (fun _ _ _ _ _ => (pe_ix (Own.ixTupOf (K := K) rfl) (pe_dget (hu_of hr) (pv 1) (pv 2) (fun _ _ => rfl)) pe_int (fun _ _ => rfl))))) pa_nil)))
 (pss_cons (ps_fld (pv 0) (pe_dc (own := [("name", 2)]) (g := gName 2) (by rfl) sc_Book___init__.nd (pi_list (pe_callB (call_sortedD rfl) (by rfl) T.sorted (by decide +kernel) (pa_cons (pv 1) pa_nil))) (blkOk_by (N := N_Book___init__) (sc := defScope s_Book___init__) (by decide +kernel)) (fun _ _ _ _ _ => pg_name (i := 2) sc_Book___init__.nd rfl (Or.inl rfl)) (fun _ _ _ _ _ => pts_nil) (fun _ _ _ _ _ => (pv 2)) (fun _ _ _ _ _ => (pe_ix (Own.ixTupOf (K := K) rfl) (pe_dget (hu_of hr) (pv 1) (pv 2) (fun _ _ => rfl)) pe_int (fun _ _ => rfl)))) rfl)
 (pss_one (ps_fld (pv 0) (pe_lock (pe_dc (own := [("name", 2)]) (g := gName 2) (by rfl) sc_Book___init__.nd (pi_keys (pe_fld (pv 0) rfl)) (blkOk_by (N := N_Book___init__) (sc := defScope s_Book___init__) (by decide +kernel)) (fun _ _ _ _ _ => pg_name (i := 2) sc_Book___init__.nd rfl (Or.inl rfl)) (fun _ _ _ _ _ => pts_nil) (fun _ _ _ _ _ => (pv 2)) (fun _ _ _ _ _ => (pe_ix (Own.ixTupOf (K := K) rfl) (pe_dget (hu_of hr) (pv 1) (pv 2) (fun _ _ => rfl)) pe_int (fun _ _ => rfl))))) rfl))))), ?_⟩
    have npd : dd ≠ p := ne_of hd hp (fun z => nomatch z)
    refine ⟨_, rfl, dd, kvs, ns, hk, wt, rfl, hd, hP, kN, hl, hB, fun H1 s1 => ?_⟩
    have hd1 := s1 _ _ hd
    have hP1 := hP.up s1
    -- the hooks for the rounds
    refine ⟨dd, _, hd1, trivial, fun od => ?_⟩
    have hPf : Pr2 K (upd H1 dd (.frz od (.dK kvs))) ns (fun n => .str (hk n)) (fun n => .int (wt n)) kvs := hP1.set hd1 (noTup_dK _)
    refine ⟨_, rfl, dd, od, rfl, .inl ⟨kvs, upd_same, fun D hD => fillD walk_keys (fun i H' => Same (upd H1 dd (.frz od (.dK kvs))) H' ∧ H' D = some (.dK (kvF (ns.take i) fun n => .str (hk n)))) ⟨Same.new hD, upd_same⟩ (fun i H' _ h => h.1 _ _ upd_same) ?_ (fun H2 h2 => ?_)⟩⟩
    · rintro i x H' H'' hi ⟨s2, hD2⟩ ⟨rfl, key, v, hkv, rfl⟩
      obtain ⟨hi1, a, rfl, rfl, hq⟩ := hPf.get hkv
      have hm := List.getElem_mem hi1
      obtain ⟨a2, hv, hq2⟩ := hPf.val kN hm
      refine ⟨rfl, _, rfl, _, rfl, _, rfl, dd, .ref a2, rfl, .inl ⟨kvs, .inr ns[i], .inr ⟨od, s2 _ _ upd_same⟩, rfl, hv.symm⟩, _, _, _, _, rfl, rfl, stUp hq2 s2, rfl, _, .inr ns[i], rfl, hD2, ?_, ?_, ?_⟩
      · rw [kvF_len, List.length_take]; exact Nat.lt_of_le_of_lt (show min i _ ≤ 64 by omega) (by decide)
      · exact fun c u e => by rw [upd_ne (ne_of_none e hD)]; exact s2 _ _ e
      · rw [put_new _ _ _ (by
          rw [kvF_keys]
          intro m
          obtain ⟨z, hz, ez⟩ := List.mem_map.mp m
          exact not_in_take kN hi1 (by rw [← Sum.inr.inj ez]; exact hz)), upd_same, List.take_succ, List.getElem?_eq_getElem hi1]
        exact congrArg (fun z => some (HO.dK z)) (kvF_snoc (ns.take i) ns[i] fun n => .str (hk n)).symm
    obtain ⟨s2, hD2⟩ := h2
    rw [hP.len, List.take_length] at hD2
    have nDd : D ≠ dd := fun e => by rw [e, upd_same] at hD; cases hD
    refine ⟨s2 _ _ upd_same, ?_⟩
    have S2 : Same H1 (upd H2 dd (.dK kvs)) := unfrz hd1 s2
    have hD3 : upd H2 dd (.dK kvs) D = some (.dK (kvR (rowsF ns hk))) := by rw [upd_ne nDd, kvR_F]; exact hD2
    generalize upd H2 dd (.dK kvs) = H3 at S2 hD3 ⊢
    have S3 := s1.trans S2
    clear s2 hPf hD2 hD hP1 hd1
    refine ⟨D, rk, rowsF ns hk, rfl, hD3, hO, fun H4 s4 => ?_⟩
    have S4 := S3.trans s4
    clear hD3 S3 S2 s4 s1
    have hd4 := S4 _ _ hd
    have hP4 := hP.up S4
    -- self.hooks
    refine ⟨_, rfl, dd, kvs, ns, rfl, .inl hd4, hP.keys, hl, fun ys q hperm hsort hq => ?_⟩
    have yN : ys.Nodup := hperm.nodup_iff.mpr kN
    have yl : ys.length < 64 := by rw [hperm.length_eq]; exact hl
    refine ⟨q, rfl, ⟨_, SqL.of upd_same⟩, fun D hD => fillD walk_list (fun i H' => Same (upd H4 q (.lst (ys.map V.str))) H' ∧ H' D = some (.dK (kvF (ys.take i) fun n => .str (hk n)))) ⟨Same.new hD, upd_same⟩ (fun i H' _ h => SqL.of (h.1 _ _ upd_same)) ?_ (fun H5 h5 => ?_)⟩
    · rintro i x H' H'' hi1 ⟨s5, hD5⟩ ⟨rfl, hx⟩
      obtain ⟨hi1, rfl⟩ := str_at hx
      have hm : ys[i] ∈ ns := hperm.mem_iff.mp (List.getElem_mem hi1)
      have S5 : Same H4 H'' := (Same.new hq).trans s5
      obtain ⟨a2, hv, hq2⟩ := hP4.val kN hm
      refine ⟨rfl, _, rfl, _, rfl, _, rfl, dd, .ref a2, rfl, .inl ⟨kvs, .inr ys[i], .inl (S5 _ _ hd4), rfl, hv.symm⟩, _, _, _, _, rfl, rfl, stUp hq2 S5, rfl, _, .inr ys[i], rfl, hD5, ?_, ?_, ?_⟩
      · rw [kvF_len, List.length_take]; exact Nat.lt_of_le_of_lt (show min i _ ≤ 64 by omega) (by decide)
      · exact fun c u e => by rw [upd_ne (ne_of_none e hD)]; exact s5 _ _ e
      · rw [put_new _ _ _ (by
          rw [kvF_keys]
          intro m
          obtain ⟨z, hz, ez⟩ := List.mem_map.mp m
          exact not_in_take yN hi1 (by rw [← Sum.inr.inj ez]; exact hz)), upd_same, List.take_succ, List.getElem?_eq_getElem hi1]
        exact congrArg (fun z => some (HO.dK z)) (kvF_snoc (ys.take i) ys[i] fun n => .str (hk n)).symm
    obtain ⟨s5, hD5⟩ := h5
    rw [List.length_map, List.take_length] at hD5
    have S5 : Same H4 H5 := (Same.new hq).trans s5
    have hp5 := S5 _ _ (S4 _ _ hp)
    have nDp : D ≠ p := fun e => by rw [e, hp5] at hD5; cases hD5
    have nDd : D ≠ dd := fun e => by rw [e, Same.new hq _ _ hd4] at hD; cases hD
    refine ⟨_, rfl, p, A.a_Book, dx, _, rfl, hp5, T.cl_B, T.nBH, by decide, ?_⟩
    have hd5 := S5 _ _ hd4
    have hP5 := hP4.up S5
    have E5 : Same (er H p) (er (upd H5 p (.ins A.a_Book dx (putF "hooks" (.ref D) []))) p) := by rw [er_upd]; exact er_mono (S4.trans S5)
    have hD6 : upd H5 p (.ins A.a_Book dx (putF "hooks" (.ref D) [])) D = some (.dK (kvF ys fun n => .str (hk n))) := by rw [upd_ne nDp]; exact hD5
    have hd6 : upd H5 p (.ins A.a_Book dx (putF "hooks" (.ref D) [])) dd = some (.dK kvs) := by rw [upd_ne npd]; exact hd5
    have hP6 : Pr2 K (upd H5 p (.ins A.a_Book dx (putF "hooks" (.ref D) []))) ns (fun n => .str (hk n)) (fun n => .int (wt n)) kvs := hP5.set hp5 (noTup_ins _ _ _)
    have hp6 : upd H5 p (.ins A.a_Book dx (putF "hooks" (.ref D) [])) p = some (.ins A.a_Book dx (putF "hooks" (.ref D) [])) := upd_same
    generalize upd H5 p (.ins A.a_Book dx (putF "hooks" (.ref D) [])) = H6 at E5 hD6 hd6 hP6 hp6 ⊢
    clear hd5 hP5 hp5 S5 s5 hD5 hD hq hP4 hd4
    -- self.waits
    refine ⟨D, _, hD6, trivial, fun od => ?_⟩
    have npD : p ≠ D := fun e => nDp e.symm
    have hp7 : upd H6 D (.frz od (.dK (kvF ys fun n => .str (hk n)))) p = some (.ins A.a_Book dx (putF "hooks" (.ref D) [])) := by rw [upd_ne npD]; exact hp6
    have hd7 : upd H6 D (.frz od (.dK (kvF ys fun n => .str (hk n)))) dd = some (.dK kvs) := by rw [upd_ne nDd.symm]; exact hd6
    have hP7 : Pr2 K (upd H6 D (.frz od (.dK (kvF ys fun n => .str (hk n))))) ns (fun n => .str (hk n)) (fun n => .int (wt n)) kvs := hP6.set hD6 (noTup_dK _)
    refine ⟨_, rfl, p, A.a_Book, dx, _, _, rfl, hp7, T.cl_B, T.nBH, rfl, D, od, rfl, .inl ⟨_, upd_same, fun D2 hD2 => fillD walk_keys (fun i H' => Same (upd H6 D (.frz od (.dK (kvF ys fun n => .str (hk n))))) H' ∧ H' D2 = some (.dK (kvF (ys.take i) fun n => .int (wt n)))) ⟨Same.new hD2, upd_same⟩ (fun i H' _ h => h.1 _ _ upd_same) ?_ (fun H8 h8 => ?_)⟩⟩
    · rintro i x H' H'' hi ⟨s8, hD8⟩ ⟨rfl, key, v, hkv, rfl⟩
      obtain ⟨hi1, rfl, rfl⟩ := kvF_at hkv
      have hm : ys[i] ∈ ns := hperm.mem_iff.mp (List.getElem_mem hi1)
      obtain ⟨a2, hv, hq2⟩ := hP7.val kN hm
      refine ⟨rfl, _, rfl, _, rfl, _, rfl, dd, .ref a2, rfl, .inl ⟨kvs, .inr ys[i], .inl (s8 _ _ hd7), rfl, hv.symm⟩, _, _, _, _, rfl, rfl, stUp hq2 s8, rfl, _, .inr ys[i], rfl, hD8, ?_, ?_, ?_⟩
      · rw [kvF_len, List.length_take]; exact Nat.lt_of_le_of_lt (show min i _ ≤ 64 by omega) (by decide)
      · exact fun c u e => by rw [upd_ne (ne_of_none e hD2)]; exact s8 _ _ e
      · rw [put_new _ _ _ (by
          rw [kvF_keys]
          intro m
          obtain ⟨z, hz, ez⟩ := List.mem_map.mp m
          exact not_in_take yN hi1 (by rw [← Sum.inr.inj ez]; exact hz)), upd_same, List.take_succ, List.getElem?_eq_getElem hi1]
        exact congrArg (fun z => some (HO.dK z)) (kvF_snoc (ys.take i) ys[i] fun n => .int (wt n)).symm
    obtain ⟨s8, hD8⟩ := h8
    rw [kvF_len, List.take_length] at hD8
    have nDD : D2 ≠ D := fun e => by rw [e, upd_same] at hD2; cases hD2
    refine ⟨s8 _ _ upd_same, ?_⟩
    have S8 : Same H6 (upd H8 D (.dK (kvF ys fun n => .str (hk n)))) := unfrz hD6 s8
    have hD9 : upd H8 D (.dK (kvF ys fun n => .str (hk n))) D2 = some (.dK (kvF ys fun n => .int (wt n))) := by rw [upd_ne nDD]; exact hD8
    generalize upd H8 D (.dK (kvF ys fun n => .str (hk n))) = H9 at S8 hD9 ⊢
    have hp9 := S8 _ _ hp6
    have nD2p : D2 ≠ p := fun e => by rw [e, hp9] at hD9; cases hD9
    refine ⟨_, rfl, p, A.a_Book, dx, _, rfl, hp9, T.cl_B, T.nBW, Nat.lt_of_le_of_lt (putF_len _ _ _) (by decide), ?_⟩
    refine k _ ys ⟨dx, D, D2, by rw [upd_same, fld2], by rw [upd_ne nDp]; exact S8 _ _ hD6, by rw [upd_ne nD2p]; exact hD9⟩ hperm hsort ?_
    rw [er_upd]
    exact E5.trans (er_mono S8)
end
end K5
set_option Elab.async false
set_option linter.all false
set_option maxRecDepth 100000
set_option maxHeartbeats 4000000
namespace K5
open PySem L2
local macro_rules | `(tactic| walk_at "rd1") => `(tactic| first
  | refine ⟨_, _, rfl, rfl, ?_⟩
  | refine ⟨_, _, _, _, rfl, rfl, SqL.of (by assumption), rfl, ?_⟩
  | refine ⟨_, _, _, _, rfl, rfl, (by assumption), rfl, ?_⟩
  | refine .inl ⟨_, rfl, ?_⟩
  | refine ⟨_, rfl, ?_⟩
  | refine ⟨(by unfold CMul; omega), ?_⟩
  | refine ⟨(by unfold CPow; omega), ?_⟩
  | refine ⟨(by (try dsimp only); omega), ?_⟩
  | refine ⟨(by unfold CDiv; omega), ?_⟩
  | fail "rd1")
local macro_rules | `(tactic| walk_at "rd") => `(tactic| repeat' (walk_at "rd1"))
section
variable {P : Program} {w : World} {K : PySem.W.Frag} {mg : Str → Option Value} {base : Heap} {A : Ad}
/-- a hanging, told by a function of its names -/
def HgF (C : Addr) (H : Hp) (b : Addr) (zs : List Str) (hk : Str → Str) : Prop := ∃ dy qh, H b = some (.ins C dy [("hooks", .ref qh)]) ∧ H qh = some (.dK (kvF zs fun n => .str (hk n)))
theorem HgF.up {C : Addr} {H H' : Hp} {b : Addr} {zs : List Str} {hk : Str → Str} (h : HgF C H b zs hk) (s : Same H H') : HgF C H' b zs hk := by
  obtain ⟨dy, qh, h1, h2⟩ := h
  exact ⟨dy, qh, s _ _ h1, s _ _ h2⟩
end
end K5
set_option Elab.async false
set_option linter.all false
set_option maxRecDepth 100000
set_option maxHeartbeats 4000000
namespace K5
open PySem L2
local macro_rules | `(tactic| walk_at "rd1") => `(tactic| first
  | refine ⟨_, _, rfl, rfl, ?_⟩
  | refine ⟨_, _, _, _, rfl, rfl, SqL.of (by assumption), rfl, ?_⟩
  | refine ⟨_, _, _, _, rfl, rfl, (by assumption), rfl, ?_⟩
  | refine .inl ⟨_, rfl, ?_⟩
  | refine ⟨_, rfl, ?_⟩
  | refine ⟨(by unfold CMul; omega), ?_⟩
  | refine ⟨(by unfold CPow; omega), ?_⟩
  | refine ⟨(by (try dsimp only); omega), ?_⟩
  | refine ⟨(by unfold CDiv; omega), ?_⟩
  | fail "rd1")
local macro_rules | `(tactic| walk_at "rd") => `(tactic| repeat' (walk_at "rd1"))
section
variable {P : Program} {w : World} {K : PySem.W.Frag} {mg : Str → Option Value} {base : Heap} {A : Ad}
theorem merge_all : ∀ (kvs acc : List (Key × V)), ((acc ++ kvs).map (·.1)).Nodup → mergeK acc kvs = acc ++ kvs
  | [], acc, _ => (List.append_nil acc).symm
  | (k, v) :: r, acc, h => by
    have e : mergeK acc ((k, v) :: r) = mergeK (putK acc k v) r := rfl
    have e2 : (acc ++ (k, v) :: r) = (acc ++ [(k, v)]) ++ r := by rw [List.append_assoc]; rfl
    rw [e2] at h
    have hn : k ∉ acc.map (·.1) := fun m => by
      rw [List.map_append, List.map_append, List.append_assoc] at h
      exact (List.nodup_append.mp h).2.2 _ m _ (List.mem_append_left _ (List.mem_singleton.mpr rfl)) rfl
    rw [e, put_new acc k v hn, merge_all r _ h, e2]
theorem paired_snoc {α β : Type} {R : α → β → Prop} : ∀ {xs : List α} {ys : List β} {x : α} {y : β}, Paired R xs ys → R x y → Paired R (xs ++ [x]) (ys ++ [y])
  | _, _, _, _, .nil, h => .cons h .nil
  | _, _, _, _, .cons a b, h => .cons a (paired_snoc b h)
theorem paired_imp {α β : Type} {R S : α → β → Prop} (f : ∀ a b, R a b → S a b) : ∀ {xs : List α} {ys : List β}, Paired R xs ys → Paired S xs ys
  | _, _, .nil => .nil
  | _, _, .cons a b => .cons (f _ _ a) (paired_imp f b)
theorem Sta.at_ {H : Hp} {st c t : Addr} {b : Int} {u o : HO} (h : Sta H st c b) (ht : er H st t = some u) (hu : ∀ xs, u ≠ .lst xs) : Sta (upd H t o) st c b := by
  obtain ⟨cs, i, l, m, n, h1, h2, h3⟩ := h.ex
  have ns := (er_some ht).1
  have nc : c ≠ t := fun e => by rw [e, ht] at h2; exact hu _ (Option.some.inj h2)
  exact ⟨cs, i, l, m, n, by rw [upd_ne ns.symm]; exact h1, by rw [er_updp ns, upd_ne nc]; exact h2, h3⟩
theorem Gs.unlock {H H' : Hp} {st c t : Addr} {b b0 : Int} {u o : HO} (S0 : Sta H st c b0) (ht : er H st t = some u) (hu : ∀ xs, u ≠ .lst xs) (g : Gs st c (upd H t o) H' b) : Gs st c H (upd H' t u) b := by
  have ns := (er_some ht).1
  obtain ⟨cs0, i0, l0, m0, n0, _, c0, _⟩ := S0.ex
  have nc : c ≠ t := fun e => by rw [e, ht] at c0; exact hu _ (Option.some.inj c0)
  obtain ⟨cs, i, l, m, n, h1, h2, h3⟩ := g.sta.ex
  refine ⟨⟨cs, i, l, m, n, by rw [upd_ne ns.symm]; exact h1, by rw [er_updp ns, upd_ne nc]; exact h2, h3⟩, fun x v e => ?_⟩
  rw [er_updp ns]
  by_cases hx : x = t
  · subst hx; rw [upd_same]; rw [ht] at e; exact e
  · rw [upd_ne hx]
    exact g.same _ _ (by rw [er_updp ns, upd_ne hx]; exact e)
end
end K5
set_option Elab.async false
set_option linter.all false
set_option maxRecDepth 100000
set_option maxHeartbeats 4000000
namespace K5
open PySem L2
local macro_rules | `(tactic| walk_at "rd1") => `(tactic| first
  | refine ⟨_, _, rfl, rfl, ?_⟩
  | refine ⟨_, _, _, _, rfl, rfl, SqL.of (by assumption), rfl, ?_⟩
  | refine ⟨_, _, _, _, rfl, rfl, (by assumption), rfl, ?_⟩
  | refine .inl ⟨_, rfl, ?_⟩
  | refine ⟨_, rfl, ?_⟩
  | refine ⟨(by unfold CMul; omega), ?_⟩
  | refine ⟨(by unfold CPow; omega), ?_⟩
  | refine ⟨(by (try dsimp only); omega), ?_⟩
  | refine ⟨(by unfold CDiv; omega), ?_⟩
  | fail "rd1")
local macro_rules | `(tactic| walk_at "rd") => `(tactic| repeat' (walk_at "rd1"))
section
variable {P : Program} {w : World} {K : PySem.W.Frag} {mg : Str → Option Value} {base : Heap} {A : Ad}
theorem ROk.perm {rk : Str → Nat} {ns ys : List Str} {hk : Str → Str} (h : ROk rk (rowsF ns hk)) (p : ys.Perm ns) : ROk rk (rowsF ys hk) := by
  have nd : ns.Nodup := by have := h.nd; rwa [ksR_F] at this
  have hl : ns.length < 64 := by have := h.len; rwa [← ksR_len, ksR_F] at this
  have up : ∀ k x, (k, x) ∈ rowsF ys hk → (k, x) ∈ rowsF ns hk := fun k x m => by
    obtain ⟨m1, e⟩ := of_mem_F m
    rw [e]; exact mem_F (p.mem_iff.mp m1)
  refine ⟨by rw [ksR_F]; exact p.nodup_iff.mpr nd, fun s m => h.nm s ?_, ?_, fun k x m => (h.acy k x (up k x m)).imp_right fun e => ⟨?_, e.2⟩, fun s m => h.rkb s ?_⟩
  · rw [ksR_F] at m ⊢; exact p.mem_iff.mp m
  · rw [← ksR_len, ksR_F, p.length_eq]; exact hl
  · have := e.1
    rw [ksR_F] at this ⊢; exact p.mem_iff.mpr this
  · rw [ksR_F] at m ⊢; exact p.mem_iff.mp m
end
end K5
set_option Elab.async false
set_option linter.all false
set_option maxRecDepth 100000
set_option maxHeartbeats 4000000
namespace K5
open PySem L2
local macro_rules | `(tactic| walk_at "rd1") => `(tactic| first
  | refine ⟨_, _, rfl, rfl, ?_⟩
  | refine ⟨_, _, _, _, rfl, rfl, SqL.of (by assumption), rfl, ?_⟩
  | refine ⟨_, _, _, _, rfl, rfl, (by assumption), rfl, ?_⟩
  | refine .inl ⟨_, rfl, ?_⟩
  | refine ⟨_, rfl, ?_⟩
  | refine ⟨(by unfold CMul; omega), ?_⟩
  | refine ⟨(by unfold CPow; omega), ?_⟩
  | refine ⟨(by (try dsimp only); omega), ?_⟩
  | refine ⟨(by unfold CDiv; omega), ?_⟩
  | fail "rd1")
local macro_rules | `(tactic| walk_at "rd") => `(tactic| repeat' (walk_at "rd1"))
section
variable {P : Program} {w : World} {K : PySem.W.Frag} {mg : Str → Option Value} {base : Heap} {A : Ad}
/-- a lock on another dict keeps books -/
theorem BkAt.frz {C : Addr} {H : Hp} {p d : Addr} {zs : List Str} {hk : Str → Str} {wt : Str → Int} {kvs : List (Key × V)} {od : Obj} (B : BkAt C H p zs hk wt) (hd : H d = some (.dK kvs)) (hn : ∃ n a, (Sum.inr n, V.ref a) ∈ kvs) : BkAt C (upd H d (.frz od (.dK kvs))) p zs hk wt := by
  obtain ⟨dx, qh, qw, h1, h2, h3⟩ := B.ex
  obtain ⟨n, a, hm⟩ := hn
  have n1 : p ≠ d := fun e => by rw [e, hd] at h1; cases h1
  have n2 : qh ≠ d := fun e => by
    rw [e, hd] at h2
    have e2 := HO.dK.inj (Option.some.inj h2)
    rw [e2] at hm
    obtain ⟨z, _, ez⟩ := List.mem_map.mp hm
    cases ez
  have n3 : qw ≠ d := fun e => by
    rw [e, hd] at h3
    have e2 := HO.dK.inj (Option.some.inj h3)
    rw [e2] at hm
    obtain ⟨z, _, ez⟩ := List.mem_map.mp hm
    cases ez
  exact ⟨dx, qh, qw, by rw [upd_ne n1]; exact h1, by rw [upd_ne n2]; exact h2, by rw [upd_ne n3]; exact h3⟩
end
end K5
set_option Elab.async false
set_option linter.all false
set_option maxRecDepth 100000
set_option maxHeartbeats 4000000
namespace K5
open PySem L2
local macro_rules | `(tactic| walk_at "rd1") => `(tactic| first
  | refine ⟨_, _, rfl, rfl, ?_⟩
  | refine ⟨_, _, _, _, rfl, rfl, SqL.of (by assumption), rfl, ?_⟩
  | refine ⟨_, _, _, _, rfl, rfl, (by assumption), rfl, ?_⟩
  | refine .inl ⟨_, rfl, ?_⟩
  | refine ⟨_, rfl, ?_⟩
  | refine ⟨(by unfold CMul; omega), ?_⟩
  | refine ⟨(by unfold CPow; omega), ?_⟩
  | refine ⟨(by (try dsimp only); omega), ?_⟩
  | refine ⟨(by unfold CDiv; omega), ?_⟩
  | fail "rd1")
local macro_rules | `(tactic| walk_at "rd") => `(tactic| repeat' (walk_at "rd1"))
open Own
section
variable {P : Program} {w : World} {K : PySem.W.Frag} {mg : Str → Option Value} {base : Heap} {A : Ad}
theorem tabs_keep {Ts : List (Addr × Str)} {H H' : Hp} (t : LamX.Tabs Ts H) (up : ∀ x o, H x = some o → (∀ xs, o ≠ .lst xs) → H' x = some o) : LamX.Tabs Ts H' := fun p hp => by
  obtain ⟨ps, h1, h2, h3⟩ := t p hp
  refine ⟨ps, up _ _ h1 (fun xs z => by cases z), h2, fun pos cv hc => ?_⟩
  obtain ⟨c2, e2, e3⟩ := h3 pos cv hc
  exact ⟨c2, e2, up _ _ e3 (fun xs z => by unfold LamX.CodeO at z; cases z)⟩
theorem tabs_gs {Ts : List (Addr × Str)} {st c : Addr} {b : Int} {H H' : Hp} (S : Sta H st c b) (t : LamX.Tabs Ts H) (s : Same (er H st) (er H' st)) : LamX.Tabs Ts H' := by
  obtain ⟨cs, i, l, m, n, e1, _⟩ := S.ex
  exact tabs_keep t fun x o e ne => (er_same _ _) _ _ (s _ _ (er_of (fun z => by rw [z, e1] at e; exact ne _ (Option.some.inj e).symm) e))
/-- the state of the draws and the tables -/
structure BdT (Ts : List (Addr × Str)) (st c : Addr) (b : Int) (H : Hp) : Prop where
  sta : Sta H st c b
  tab : LamX.Tabs Ts H
theorem BdT.gs {Ts : List (Addr × Str)} {st c : Addr} {b b' : Int} {H H' : Hp} (B : BdT Ts st c b H) (g : Gs st c H H' b') : BdT Ts st c b' H' := ⟨g.sta, tabs_gs B.sta B.tab g.same⟩
theorem BdT.same {Ts : List (Addr × Str)} {st c : Addr} {b : Int} {H H' : Hp} (B : BdT Ts st c b H) (s : Same H H') : BdT Ts st c b H' := B.gs (Gs.of_same B.sta s)
theorem BdT.ext {Ts : List (Addr × Str)} {st c : Addr} {b : Int} {H H' : Hp} (B : BdT Ts st c b H) (e : LamX.ExtN H H') (t : LamX.Tabs Ts H') : BdT Ts st c b H' := by
  obtain ⟨cs, i, l, m, n, e1, e2, r⟩ := B.sta.ex
  exact ⟨⟨cs, i, l, m, n, e _ _ e1 (fun _ z => by unfold five at z; cases z), er_of (er_some e2).1 (e _ _ (er_some e2).2 (fun _ z => by cases z)), r⟩, t⟩
theorem BdT.le {Ts : List (Addr × Str)} {st c : Addr} {b b' : Int} {H : Hp} (B : BdT Ts st c b H) (hb : b ≤ b') (h9 : b' ≤ 1000000) : BdT Ts st c b' H := ⟨B.sta.le hb h9, B.tab⟩
theorem BkAt.nt {C : Addr} {H : Hp} {p : Addr} {ys : List Str} {hk : Str → Str} {wt : Str → Int} (B : BkAt C H p ys hk wt) : BkAt C (nt H) p ys hk wt := by
  obtain ⟨dx, qh, qw, h1, h2, h3⟩ := B.ex
  exact ⟨dx, qh, qw, nt_of h1 (fun _ z => nomatch z), nt_of h2 (fun _ z => nomatch z), nt_of h3 (fun _ z => nomatch z)⟩
theorem HgF.nt {C : Addr} {H : Hp} {b : Addr} {zs : List Str} {hk : Str → Str} (B : HgF C H b zs hk) : HgF C (nt H) b zs hk := by
  obtain ⟨dy, qh, h1, h2⟩ := B
  exact ⟨dy, qh, nt_of h1 (fun _ z => nomatch z), nt_of h2 (fun _ z => nomatch z)⟩
end
end K5
set_option Elab.async false
set_option linter.all false
set_option maxRecDepth 100000
set_option maxHeartbeats 4000000
namespace K5
open PySem L2
local macro_rules | `(tactic| walk_at "rd1") => `(tactic| first
  | refine ⟨_, _, rfl, rfl, ?_⟩
  | refine ⟨_, _, _, _, rfl, rfl, SqL.of (by assumption), rfl, ?_⟩
  | refine ⟨_, _, _, _, rfl, rfl, (by assumption), rfl, ?_⟩
  | refine .inl ⟨_, rfl, ?_⟩
  | refine ⟨_, rfl, ?_⟩
  | refine ⟨(by unfold CMul; omega), ?_⟩
  | refine ⟨(by unfold CPow; omega), ?_⟩
  | refine ⟨(by (try dsimp only); omega), ?_⟩
  | refine ⟨(by unfold CDiv; omega), ?_⟩
  | fail "rd1")
local macro_rules | `(tactic| walk_at "rd") => `(tactic| repeat' (walk_at "rd1"))
open Own
section
variable {P : Program} {w : World} {K : PySem.W.Frag} {mg : Str → Option Value} {base : Heap} {A : Ad}
theorem wid_strs : ∀ ss : List Str, widAll (ss.map PyData.str) = true
  | [] => by simp [widAll]
  | s :: ss => by simp only [List.map_cons, widAll, wid, wid_strs ss, Bool.and_self]
theorem depth_strs : ∀ ss : List Str, PyData.depthAll (ss.map PyData.str) = 0
  | [] => by simp [PyData.depthAll]
  | s :: ss => by simp [PyData.depthAll, PyData.depth, depth_strs ss]
theorem mk_book {H : Hp} {C dd : Addr} {kvs : List (Key × V)} {ns : List Str} {hk : Str → Str} {wt : Str → Int} {rk : Str → Nat} {Q : Addr → Hp → Prop} {E : XK}
    (hd : H dd = some (.dK kvs)) (hP : Pr2 K H ns (fun n => .str (hk n)) (fun n => .int (wt n)) kvs) (hO : ROk rk (rowsF ns hk)) (h0 : ∀ n ∈ ns, 0 ≤ wt n)
    (k : ∀ p H' ys, H p = none → Same H H' → BkAt C H' p ys hk wt → ys.Perm ns → PyProof.Rows.sortedS ys = true → Q p H') :
    ∀ p dx, H p = none → H dx = none → dx ≠ p → spBInit K C [.ref p, .ref dd] (upd (upd H dx (.own p)) p (.ins C dx [])) (fun v H' => v = .non ∧ Q p H') E := by
  intro p dx np ndx ndp
  have sM : Same H (upd (upd H dx (.own p)) p (.ins C dx [])) := fun b u e => by rw [upd_ne (ne_of_none e np), upd_ne (ne_of_none e ndx)]; exact e
  have sE : Same H (er (upd (upd H dx (.own p)) p (.ins C dx [])) p) := fun b u e => er_of (ne_of_none e np) (sM _ _ e)
  exact ⟨p, dx, dd, kvs, ns, hk, wt, rk, rfl, upd_same, sM _ _ hd, hP.up sM, hO, h0, fun H' ys B hp hs sS => ⟨rfl, k p H' ys np (fun b u e => (er_same _ _) _ _ (sS _ _ (sE _ _ e))) B hp hs⟩⟩
theorem asc_rowsF {ns : List Str} {hk : Str → Str} {rs : Rows} (a : Asc (rowsF ns hk) rs) : rs = rowsF (ksR rs) hk ∧ (ksR rs).Perm ns ∧ PyProof.Rows.sortedS (ksR rs) = true := by
  have p : (ksR rs).Perm ns := by have := a.keys; rwa [ksR_F] at this
  have key : ∀ l : Rows, (∀ k h, (k, h) ∈ l → (k, h) ∈ rowsF ns hk) → l = rowsF (ksR l) hk := fun l => by
    induction l with
    | nil => intro _; rfl
    | cons r l ih =>
      intro hm
      have e := ih fun k h m => hm k h (List.mem_cons_of_mem _ m)
      have m := of_mem_F (hm r.1 r.2 (List.mem_cons_self ..))
      show r :: l = (r.1, hk r.1) :: rowsF (ksR l) hk
      rw [← e, ← m.2]
  exact ⟨key rs a.mem, p, a.asc⟩
theorem mk_hang {H : Hp} {C dd : Addr} {ns : List Str} {hk : Str → Str} {rk : Str → Nat} {Q : Addr → Hp → Prop} {E : XK}
    (hd : H dd = some (.dK (kvF ns fun n => .str (hk n)))) (hO : ROk rk (rowsF ns hk))
    (k : ∀ p H' ys, H p = none → Same H H' → HgF C H' p ys hk → ys.Perm ns → PyProof.Rows.sortedS ys = true → Q p H') :
    ∀ p dx, H p = none → H dx = none → dx ≠ p → spHInit C [.ref p, .ref dd] (upd (upd H dx (.own p)) p (.ins C dx [])) (fun v H' => v = .non ∧ Q p H') E := by
  intro p dx np ndx ndp
  have sM : Same H (upd (upd H dx (.own p)) p (.ins C dx [])) := fun b u e => by rw [upd_ne (ne_of_none e np), upd_ne (ne_of_none e ndx)]; exact e
  have sE : Same H (er (upd (upd H dx (.own p)) p (.ins C dx [])) p) := fun b u e => er_of (ne_of_none e np) (sM _ _ e)
  refine ⟨p, dx, dd, rk, rowsF ns hk, rfl, upd_same, by rw [kvR_F]; exact sM _ _ hd, hO, fun H' q rs hg nq asc sS => ⟨rfl, ?_⟩⟩
  obtain ⟨e1, e2, e3⟩ := asc_rowsF asc
  obtain ⟨dy, hy⟩ := hg.ex
  exact k p H' (ksR rs) np (fun b u e => (er_same _ _) _ _ (sS _ _ (sE _ _ e))) ⟨dy, q, hy, by rw [hg.at_]; conv => lhs; rw [e1, kvR_F]⟩ e2 e3
end
end K5
set_option Elab.async false
set_option linter.all false
set_option maxRecDepth 100000
set_option maxHeartbeats 4000000
namespace K5
open PySem L2
local macro_rules | `(tactic| walk_at "rd1") => `(tactic| first
  | refine ⟨_, _, rfl, rfl, ?_⟩
  | refine ⟨_, _, _, _, rfl, rfl, SqL.of (by assumption), rfl, ?_⟩
  | refine ⟨_, _, _, _, rfl, rfl, (by assumption), rfl, ?_⟩
  | refine .inl ⟨_, rfl, ?_⟩
  | refine ⟨_, rfl, ?_⟩
  | refine ⟨(by unfold CMul; omega), ?_⟩
  | refine ⟨(by unfold CPow; omega), ?_⟩
  | refine ⟨(by (try dsimp only); omega), ?_⟩
  | refine ⟨(by unfold CDiv; omega), ?_⟩
  | fail "rd1")
local macro_rules | `(tactic| walk_at "rd") => `(tactic| repeat' (walk_at "rd1"))
open Own
section
variable {P : Program} {w : World} {K : PySem.W.Frag} {mg : Str → Option Value} {base : Heap} {A : Ad}
theorem putM_new (acc : List (MK × V)) (k : MK) (v : V) (h : k ∉ acc.map (·.1)) : putK acc k v = acc ++ [(k, v)] := by
  unfold putK
  have e : (acc.any fun kv => decide (kv.1 = k)) = false := by
    rw [List.any_eq_false]
    intro p hp q
    exact h (List.mem_map.mpr ⟨p, hp, of_decide_eq_true q⟩)
  rw [e]
  rfl
end
end K5
set_option Elab.async false
set_option linter.all false
set_option maxRecDepth 100000
set_option maxHeartbeats 4000000
namespace K5
open PySem L2
local macro_rules | `(tactic| walk_at "rd1") => `(tactic| first
  | refine ⟨_, _, rfl, rfl, ?_⟩
  | refine ⟨_, _, _, _, rfl, rfl, SqL.of (by assumption), rfl, ?_⟩
  | refine ⟨_, _, _, _, rfl, rfl, (by assumption), rfl, ?_⟩
  | refine .inl ⟨_, rfl, ?_⟩
  | refine ⟨_, rfl, ?_⟩
  | refine ⟨(by unfold CMul; omega), ?_⟩
  | refine ⟨(by unfold CPow; omega), ?_⟩
  | refine ⟨(by (try dsimp only); omega), ?_⟩
  | refine ⟨(by unfold CDiv; omega), ?_⟩
  | fail "rd1")
local macro_rules | `(tactic| walk_at "rd") => `(tactic| repeat' (walk_at "rd1"))
open Own
section
variable {P : Program} {w : World} {K : PySem.W.Frag} {mg : Str → Option Value} {base : Heap} {A : Ad}
theorem KeyL.up {H H' : Hp} {y : V} {k : MK} (h : KeyL K H y k) (s : Same H H') : KeyL K H' y k := by
  rcases k with z | (_ | z) | ks
  · exact h
  · exact h
  · exact h
  · obtain ⟨a, e, q⟩ := h
    exact ⟨a, e, stUp q s⟩
end
end K5
set_option Elab.async false
set_option linter.all false
set_option maxRecDepth 100000
set_option maxHeartbeats 4000000
namespace K5
open PySem L2
local macro_rules | `(tactic| walk_at "rd1") => `(tactic| first
  | refine ⟨_, _, rfl, rfl, ?_⟩
  | refine ⟨_, _, _, _, rfl, rfl, SqL.of (by assumption), rfl, ?_⟩
  | refine ⟨_, _, _, _, rfl, rfl, (by assumption), rfl, ?_⟩
  | refine .inl ⟨_, rfl, ?_⟩
  | refine ⟨_, rfl, ?_⟩
  | refine ⟨(by unfold CMul; omega), ?_⟩
  | refine ⟨(by unfold CPow; omega), ?_⟩
  | refine ⟨(by (try dsimp only); omega), ?_⟩
  | refine ⟨(by unfold CDiv; omega), ?_⟩
  | fail "rd1")
local macro_rules | `(tactic| walk_at "rd") => `(tactic| repeat' (walk_at "rd1"))
open Own
section
variable {P : Program} {w : World} {K : PySem.W.Frag} {mg : Str → Option Value} {base : Heap} {A : Ad}
theorem er_sta {H : Hp} {st c a : Addr} {b : Int} {o : HO} (S : Sta H st c b) (h : H a = some o) (n : ∀ xs, o ≠ .lst xs) : er H st a = some o := er_of (fun e => by
  obtain ⟨cs, i, l, m, k, h1, _⟩ := S.ex
  rw [e, h1] at h
  exact n _ (Option.some.inj h).symm) h
theorem BkAt.sta {C p st c : Addr} {H : Hp} {b : Int} {ys : List Str} {hk : Str → Str} {wt : Str → Int} (S : Sta H st c b) (B : BkAt C H p ys hk wt) : BkAt C (er H st) p ys hk wt := by
  obtain ⟨dx, qh, qw, h1, h2, h3⟩ := B.ex
  exact ⟨dx, qh, qw, er_sta S h1 (fun _ z => nomatch z), er_sta S h2 (fun _ z => nomatch z), er_sta S h3 (fun _ z => nomatch z)⟩
end
end K5
set_option Elab.async false
set_option linter.all false
set_option maxRecDepth 100000
set_option maxHeartbeats 4000000
namespace K5
open PySem L2
local macro_rules | `(tactic| walk_at "rd1") => `(tactic| first
  | refine ⟨_, _, rfl, rfl, ?_⟩
  | refine ⟨_, _, _, _, rfl, rfl, SqL.of (by assumption), rfl, ?_⟩
  | refine ⟨_, _, _, _, rfl, rfl, (by assumption), rfl, ?_⟩
  | refine .inl ⟨_, rfl, ?_⟩
  | refine ⟨_, rfl, ?_⟩
  | refine ⟨(by unfold CMul; omega), ?_⟩
  | refine ⟨(by unfold CPow; omega), ?_⟩
  | refine ⟨(by (try dsimp only); omega), ?_⟩
  | refine ⟨(by unfold CDiv; omega), ?_⟩
  | fail "rd1")
local macro_rules | `(tactic| walk_at "rd") => `(tactic| repeat' (walk_at "rd1"))
open Own
section
variable {P : Program} {w : World} {K : PySem.W.Frag} {mg : Str → Option Value} {base : Heap} {A : Ad}
theorem tyXSame {H H' : Hp} {x : V} {t : Value} (s : Same H H') (h : TyX K H x t) : TyX K H' x t := by
  cases h with
  | base h =>
    cases h with
    | non => exact .base .non
    | bl x => exact .base (.bl x)
    | int i => exact .base (.int i)
    | str x => exact .base (.str x)
    | flt x => exact .base (.flt x)
    | lst e => exact .base (.lst (s _ _ e))
    | frz e => exact .base (.frz (s _ _ e))
    | tup e => exact .base (.tup (s _ _ e))
    | dK e => exact .base (.dK (s _ _ e))
    | dT e => exact .base (.dT (s _ _ e))
    | ins e c a n k m => exact .base (.ins (s _ _ e) c a n k m)
  | byt b => exact .byt b
  | set e => exact .set (s _ _ e)
  | kList e c => exact .kList e c
  | kTuple e c => exact .kTuple e c
  | kDict e c => exact .kDict e c
  | fTuple e => exact .fTuple (s _ _ e)
  | fDict e => exact .fDict (s _ _ e)
/-- is_list of a list or a tuple, or of what is none -/
def spIsListX (K : PySem.W.Frag) : Sp := fun vs H Q _ => ∃ (x : V), vs = [x] ∧ ((∃ a xs, x = .ref a ∧ SqX K H a xs ∧ ∀ H', Same H H' → Q (.bl true) H') ∨ ∃ t, TyX K H x (.type t) ∧ kitB t "list" = some false ∧ kitB t "tuple" = some false ∧ ∀ H', Same H H' → Q (.bl false) H')
theorem ok_islistX (T : Txt K mg A) : FnOk P w K mg base CX0 1 A.a_is_list A.d_is_list P_is_list (spIsListX K) := by
  refine T.f_is_list.ok sc_is_list (fun vs H Q E h => ?_) (fun cdv A' outer s H vs Q E hr h => ?_)
  · obtain ⟨x, rfl, _⟩ := h
    rfl
  · obtain ⟨x, rfl, h⟩ := h
    refine ⟨_, (pss_one (ps_ret (pe_callB call_isiT (by rfl) T.isinstance (by decide +kernel) (pa_cons (pv 0) (pa_cons (pe_tup (pa_cons (pe_bltn (v := .ty "list") (u := .type "list") (by rfl) T.list (by decide +kernel) rfl) (pa_cons (pe_bltn (v := .ty "tuple") (u := .type "tuple") (by rfl) T.tuple (by decide +kernel) rfl) pa_nil))) pa_nil))))), ?_⟩
    refine ⟨_, rfl, by show 2 ≤ sizeLine; decide, fun p hp => ?_⟩
    have s1 : Same H (upd H p (.tup [.ty "list", .ty "tuple"])) := Same.new hp
    rcases h with ⟨a, xs, rfl, hq, k⟩ | ⟨t, ht, e1, e2, k⟩
    · rcases sxUp hq s1 with q | q
      · exact ⟨_, p, _, _, _, true, rfl, upd_same, .cons (.ty _) (.cons (.ty _) .nil), tyL q, kit2 (a := "list") (b := "list") (c := "tuple") (r := true) (s := false) (by decide +kernel) (by decide +kernel), k _ s1⟩
      · exact ⟨_, p, _, _, _, true, rfl, upd_same, .cons (.ty _) (.cons (.ty _) .nil), tyT q, kit2 (a := "tuple") (b := "list") (c := "tuple") (r := false) (s := true) (by decide +kernel) (by decide +kernel), k _ s1⟩
    · exact ⟨_, p, _, _, _, false, rfl, upd_same, .cons (.ty _) (.cons (.ty _) .nil), tyXSame s1 ht, kit2 (a := t) (b := "list") (c := "tuple") (r := false) (s := false) e1 e2, k _ s1⟩
theorem dp_len {H : Hp} : ∀ {vs : List V} {ds : List PyData}, DpAll K H vs ds → vs.length = ds.length
  | _, _, .nil => rfl
  | _, _, .cons _ h => congrArg (· + 1) (dp_len h)
end
end K5
set_option Elab.async false
set_option linter.all false
set_option maxRecDepth 100000
set_option maxHeartbeats 4000000
namespace K5
open PySem L2
local macro_rules | `(tactic| walk_at "rd1") => `(tactic| first
  | refine ⟨_, _, rfl, rfl, ?_⟩
  | refine ⟨_, _, _, _, rfl, rfl, SqL.of (by assumption), rfl, ?_⟩
  | refine ⟨_, _, _, _, rfl, rfl, (by assumption), rfl, ?_⟩
  | refine .inl ⟨_, rfl, ?_⟩
  | refine ⟨_, rfl, ?_⟩
  | refine ⟨(by unfold CMul; omega), ?_⟩
  | refine ⟨(by unfold CPow; omega), ?_⟩
  | refine ⟨(by (try dsimp only); omega), ?_⟩
  | refine ⟨(by unfold CDiv; omega), ?_⟩
  | fail "rd1")
local macro_rules | `(tactic| walk_at "rd") => `(tactic| repeat' (walk_at "rd1"))
open Own
section
variable {P : Program} {w : World} {K : PySem.W.Frag} {mg : Str → Option Value} {base : Heap} {A : Ad}
theorem putK_F {ns : List Str} {f : Str → V} {v : Str} {x : V} (m : v ∈ ns) : putK (kvF ns f) (.inr v) x = kvF ns (fun n => if n = v then x else f n) := by
  have e : putK (kvF ns f) (.inr v) x = (kvF ns f).map (fun kv => if kv.1 = .inr v then (kv.1, x) else kv) := by
    refine if_pos (List.any_eq_true.mpr ⟨(.inr v, f v), ?_, decide_eq_true rfl⟩)
    exact List.mem_map.mpr ⟨v, m, rfl⟩
  rw [e]
  unfold kvF
  rw [List.map_map]
  refine List.map_congr_left fun n _ => ?_
  show (if (Sum.inr n : Key) = .inr v then ((Sum.inr n : Key), x) else (.inr n, f n)) = (.inr n, if n = v then x else f n)
  by_cases c : n = v
  · rw [if_pos (congrArg Sum.inr c), if_pos c]
  · rw [if_neg (fun z => c (Sum.inr.inj z)), if_neg c]
end
end K5
set_option Elab.async false
set_option linter.all false
set_option maxRecDepth 100000
set_option maxHeartbeats 4000000
namespace K5
open PySem L2
local macro_rules | `(tactic| walk_at "rd1") => `(tactic| first
  | refine ⟨_, _, rfl, rfl, ?_⟩
  | refine ⟨_, _, _, _, rfl, rfl, SqL.of (by assumption), rfl, ?_⟩
  | refine ⟨_, _, _, _, rfl, rfl, (by assumption), rfl, ?_⟩
  | refine .inl ⟨_, rfl, ?_⟩
  | refine ⟨_, rfl, ?_⟩
  | refine ⟨(by unfold CMul; omega), ?_⟩
  | refine ⟨(by unfold CPow; omega), ?_⟩
  | refine ⟨(by (try dsimp only); omega), ?_⟩
  | refine ⟨(by unfold CDiv; omega), ?_⟩
  | fail "rd1")
local macro_rules | `(tactic| walk_at "rd") => `(tactic| repeat' (walk_at "rd1"))
open Own
section
variable {P : Program} {w : World} {K : PySem.W.Frag} {mg : Str → Option Value} {base : Heap} {A : Ad}
theorem Pr2.fill {H : Hp} {ys : List Str} {f g : Str → V} {kvs : List (Key × V)} {i : Nat} {a R : Addr} (h : Pr2 K H (ys.take i) f g kvs) (nd : ys.Nodup) (hi : i < ys.length) (na : H a = none) (hR : H R = some (.dK kvs)) :
    Pr2 K (upd (upd H a (.tup [f ys[i], g ys[i]])) R (.dK (putK kvs (.inr ys[i]) (.ref a)))) (ys.take (i + 1)) f g (putK kvs (.inr ys[i]) (.ref a)) := by
  rw [put_new _ _ _ (by
    rw [h.keys]
    intro m
    obtain ⟨z, hz, ez⟩ := List.mem_map.mp m
    exact not_in_take nd hi (by rw [← Sum.inr.inj ez]; exact hz)), List.take_succ, List.getElem?_eq_getElem hi]
  have hR5 : upd H a (.tup [f ys[i], g ys[i]]) R = some (.dK kvs) := Same.new na _ _ hR
  exact Pr2.snoc ((h.up (Same.new na)).set hR5 (noTup_dK _)) (tupSet hR5 (noTup_dK _) (SqT.of upd_same))
theorem made {p dx : Addr} {H4 H5 : Hp} {C : Addr} (np : H4 p = none) (ndx : H4 dx = none)
    (s : Same (er (upd (upd H4 dx (.own p)) p (.ins C dx [])) p) (er H5 p)) : Same H4 H5 := fun b u e => (er_same _ _) _ _ (s _ _ (er_of (ne_of_none e np) (by rw [upd_ne (ne_of_none e np), upd_ne (ne_of_none e ndx)]; exact e)))
end
end K5
set_option Elab.async false
set_option linter.all false
set_option maxRecDepth 100000
set_option maxHeartbeats 4000000
namespace K5
open PySem L2
local macro_rules | `(tactic| walk_at "rd1") => `(tactic| first
  | refine ⟨_, _, rfl, rfl, ?_⟩
  | refine ⟨_, _, _, _, rfl, rfl, SqL.of (by assumption), rfl, ?_⟩
  | refine ⟨_, _, _, _, rfl, rfl, (by assumption), rfl, ?_⟩
  | refine .inl ⟨_, rfl, ?_⟩
  | refine ⟨_, rfl, ?_⟩
  | refine ⟨(by unfold CMul; omega), ?_⟩
  | refine ⟨(by unfold CPow; omega), ?_⟩
  | refine ⟨(by (try dsimp only); omega), ?_⟩
  | refine ⟨(by unfold CDiv; omega), ?_⟩
  | fail "rd1")
local macro_rules | `(tactic| walk_at "rd") => `(tactic| repeat' (walk_at "rd1"))
open Own
section
variable {P : Program} {w : World} {K : PySem.W.Frag} {mg : Str → Option Value} {base : Heap} {A : Ad}
structure BkR (C : Addr) (H : Hp) (p : Addr) (ys : List Str) (hk : Str → Str) (wt : Str → Int) : Prop where
  ex : ∃ dx qh qw, H p = some (.ins C dx [("hooks", .ref qh), ("waits", .ref qw)]) ∧ Rd H qh (.dK (kvF ys fun n => .str (hk n))) ∧ H qw = some (.dK (kvW ys wt))
theorem BkAt.locked {C : Addr} {H : Hp} {p qh : Addr} {ys : List Str} {hk hk0 : Str → Str} {wt : Str → Int} {od : Obj} (B : BkAt C H p ys hk wt) (hq : H qh = some (.dK (kvF ys fun n => .str (hk0 n)))) (nd : ys.Nodup) {n : Str} (m : n ∈ ys) : BkR C (upd H qh (.frz od (.dK (kvF ys fun n => .str (hk0 n))))) p ys hk wt := by
  obtain ⟨dx, qa, qw, h1, h2, h3⟩ := B.ex
  refine ⟨dx, qa, qw, by rw [upd_ne (fun e => by rw [e, hq] at h1; cases h1)]; exact h1, ?_, ?_⟩
  · by_cases e : qa = qh
    · subst e
      rw [hq] at h2
      rw [HO.dK.inj (Option.some.inj h2)]
      exact .inr ⟨od, upd_same⟩
    · exact .inl (by rw [upd_ne e]; exact h2)
  · rw [upd_ne fun e => ?_]
    · exact h3
    · rw [e, hq] at h3
      have e1 := HO.dK.inj (Option.some.inj h3)
      have v1 := kvF_val (f := fun n => V.str (hk0 n)) nd m
      rw [e1] at v1
      have v2 := kvF_val (f := fun n => V.int (wt n)) nd m
      rw [v2] at v1
      cases v1
theorem BkR.up {C : Addr} {H H' : Hp} {p : Addr} {ys : List Str} {hk : Str → Str} {wt : Str → Int} (B : BkR C H p ys hk wt) (s : Same H H') : BkR C H' p ys hk wt := by
  obtain ⟨dx, qa, qw, h1, h2, h3⟩ := B.ex
  exact ⟨dx, qa, qw, s _ _ h1, rdUp h2 s, s _ _ h3⟩
end
end K5
set_option Elab.async false
set_option linter.all false
set_option maxRecDepth 100000
set_option maxHeartbeats 4000000
namespace K5
open PySem L2
local macro_rules | `(tactic| walk_at "rd1") => `(tactic| first
  | refine ⟨_, _, rfl, rfl, ?_⟩
  | refine ⟨_, _, _, _, rfl, rfl, SqL.of (by assumption), rfl, ?_⟩
  | refine ⟨_, _, _, _, rfl, rfl, (by assumption), rfl, ?_⟩
  | refine .inl ⟨_, rfl, ?_⟩
  | refine ⟨_, rfl, ?_⟩
  | refine ⟨(by unfold CMul; omega), ?_⟩
  | refine ⟨(by unfold CPow; omega), ?_⟩
  | refine ⟨(by (try dsimp only); omega), ?_⟩
  | refine ⟨(by unfold CDiv; omega), ?_⟩
  | fail "rd1")
local macro_rules | `(tactic| walk_at "rd") => `(tactic| repeat' (walk_at "rd1"))
open Own
section
variable {P : Program} {w : World} {K : PySem.W.Frag} {mg : Str → Option Value} {base : Heap} {A : Ad}
theorem un65 {n : Nat} {A : Around} (r : Room n A) : A.units + 65 < cLine := by have := r.un; omega
end
end K5
set_option Elab.async false
set_option linter.all false
set_option maxRecDepth 100000
set_option maxHeartbeats 4000000
namespace K5
open PySem L2
local macro_rules | `(tactic| walk_at "rd1") => `(tactic| first
  | refine ⟨_, _, rfl, rfl, ?_⟩
  | refine ⟨_, _, _, _, rfl, rfl, SqL.of (by assumption), rfl, ?_⟩
  | refine ⟨_, _, _, _, rfl, rfl, (by assumption), rfl, ?_⟩
  | refine .inl ⟨_, rfl, ?_⟩
  | refine ⟨_, rfl, ?_⟩
  | refine ⟨(by unfold CMul; omega), ?_⟩
  | refine ⟨(by unfold CPow; omega), ?_⟩
  | refine ⟨(by (try dsimp only); omega), ?_⟩
  | refine ⟨(by unfold CDiv; omega), ?_⟩
  | fail "rd1")
local macro_rules | `(tactic| walk_at "rd") => `(tactic| repeat' (walk_at "rd1"))
open Own
section
variable {P : Program} {w : World} {K : PySem.W.Frag} {mg : Str → Option Value} {base : Heap} {A : Ad}
theorem joinS {j : Nat} {v : V} {c : TT} {t u r : TS} {D : Ends} {σ : St} {H : Hp} (Ex : St → Hp → Prop) (h : ∀ nx : St → Hp → Prop, (∀ σ H, Ex σ H → nx σ H) → tIfS c t u { D with nx := nx } (σ.set j (some v)) H) (hd : ∀ σ H, Ex σ H → r D σ H) : gName j v σ H (tSeq (tIfS c t u) r D) := h (r D) hd
end
end K5
set_option Elab.async false
set_option linter.all false
set_option maxRecDepth 100000
set_option maxHeartbeats 4000000
namespace K5
open PySem L2
local macro_rules | `(tactic| walk_at "rd1") => `(tactic| first
  | refine ⟨_, _, rfl, rfl, ?_⟩
  | refine ⟨_, _, _, _, rfl, rfl, SqL.of (by assumption), rfl, ?_⟩
  | refine ⟨_, _, _, _, rfl, rfl, (by assumption), rfl, ?_⟩
  | refine .inl ⟨_, rfl, ?_⟩
  | refine ⟨_, rfl, ?_⟩
  | refine ⟨(by unfold CMul; omega), ?_⟩
  | refine ⟨(by unfold CPow; omega), ?_⟩
  | refine ⟨(by (try dsimp only); omega), ?_⟩
  | refine ⟨(by unfold CDiv; omega), ?_⟩
  | fail "rd1")
local macro_rules | `(tactic| walk_at "rd") => `(tactic| repeat' (walk_at "rd1"))
open Own
section
variable {P : Program} {w : World} {K : PySem.W.Frag} {mg : Str → Option Value} {base : Heap} {A : Ad}
theorem fnLift {CX : CXT} {k : Nat} {f : Addr} {fd : FuncData} {ps : List Str} {sp : Sp} (F : FnOk P w K mg base CX0 k f fd ps sp) : FnOk P w K mg base CX k f fd ps sp :=
  ⟨F.len, fun A outer s H args us vs Q E hr e b v h => codeAny_mono (F.run A outer s H args us vs Q E hr e b v h) fun r s' q => by
    cases r with
    | error e => exact False.elim q
    | ok fl => cases fl <;> exact q⟩
end
end K5
set_option Elab.async false
set_option linter.all false
set_option maxRecDepth 100000
set_option maxHeartbeats 4000000
namespace K5
open PySem L2
local macro_rules | `(tactic| walk_at "rd1") => `(tactic| first
  | refine ⟨_, _, rfl, rfl, ?_⟩
  | refine ⟨_, _, _, _, rfl, rfl, SqL.of (by assumption), rfl, ?_⟩
  | refine ⟨_, _, _, _, rfl, rfl, (by assumption), rfl, ?_⟩
  | refine .inl ⟨_, rfl, ?_⟩
  | refine ⟨_, rfl, ?_⟩
  | refine ⟨(by unfold CMul; omega), ?_⟩
  | refine ⟨(by unfold CPow; omega), ?_⟩
  | refine ⟨(by (try dsimp only); omega), ?_⟩
  | refine ⟨(by unfold CDiv; omega), ?_⟩
  | fail "rd1")
local macro_rules | `(tactic| walk_at "rd") => `(tactic| repeat' (walk_at "rd1"))
open Own
section
variable {P : Program} {w : World} {K : PySem.W.Frag} {mg : Str → Option Value} {base : Heap} {A : Ad}
def look : List (Str × Int) → Str → Option Int
  | [], _ => none
  | (a, i) :: r, n => if a = n then some i else look r n
theorem BkAt.rd {C : Addr} {H : Hp} {p : Addr} {ys : List Str} {hk : Str → Str} {wt : Str → Int} (B : BkAt C H p ys hk wt) : BkR C H p ys hk wt := by
  obtain ⟨dx, qa, qw, h1, h2, h3⟩ := B.ex
  exact ⟨dx, qa, qw, h1, .inl h2, h3⟩
end
end K5
set_option Elab.async false
set_option linter.all false
set_option maxRecDepth 100000
set_option maxHeartbeats 4000000
namespace K5
open PySem L2
local macro_rules | `(tactic| walk_at "rd1") => `(tactic| first
  | refine ⟨_, _, rfl, rfl, ?_⟩
  | refine ⟨_, _, _, _, rfl, rfl, SqL.of (by assumption), rfl, ?_⟩
  | refine ⟨_, _, _, _, rfl, rfl, (by assumption), rfl, ?_⟩
  | refine .inl ⟨_, rfl, ?_⟩
  | refine ⟨_, rfl, ?_⟩
  | refine ⟨(by unfold CMul; omega), ?_⟩
  | refine ⟨(by unfold CPow; omega), ?_⟩
  | refine ⟨(by (try dsimp only); omega), ?_⟩
  | refine ⟨(by unfold CDiv; omega), ?_⟩
  | fail "rd1")
local macro_rules | `(tactic| walk_at "rd") => `(tactic| repeat' (walk_at "rd1"))
open Own
section
variable {P : Program} {w : World} {K : PySem.W.Frag} {mg : Str → Option Value} {base : Heap} {A : Ad}
theorem Pr2.cat {H : Hp} {ns ms : List Str} {f g : Str → V} {ks ls : List (Key × V)} (h1 : Pr2 K H ns f g ks) (h2 : Pr2 K H ms f g ls) : Pr2 K H (ns ++ ms) f g (ks ++ ls) := by
  refine ⟨by rw [List.map_append, List.map_append, h1.keys, h2.keys], fun i n e => ?_⟩
  rcases Nat.lt_or_ge i ns.length with lt | ge
  · rw [List.getElem?_append_left lt] at e
    rw [List.getElem?_append_left (by rw [h1.len]; exact lt)]
    exact h1.at_ i n e
  · rw [List.getElem?_append_right ge] at e
    rw [List.getElem?_append_right (by rw [h1.len]; exact ge), h1.len]
    exact h2.at_ _ n e
def mx (ys2 : List Str) (f g : Str → Int) (n : Str) : Int := if n ∈ ys2 then g n else f n
end
end K5
set_option Elab.async false
set_option linter.all false
set_option maxRecDepth 100000
set_option maxHeartbeats 4000000
namespace K5
open PySem L2
local macro_rules | `(tactic| walk_at "rd1") => `(tactic| first
  | refine ⟨_, _, rfl, rfl, ?_⟩
  | refine ⟨_, _, _, _, rfl, rfl, SqL.of (by assumption), rfl, ?_⟩
  | refine ⟨_, _, _, _, rfl, rfl, (by assumption), rfl, ?_⟩
  | refine .inl ⟨_, rfl, ?_⟩
  | refine ⟨_, rfl, ?_⟩
  | refine ⟨(by unfold CMul; omega), ?_⟩
  | refine ⟨(by unfold CPow; omega), ?_⟩
  | refine ⟨(by (try dsimp only); omega), ?_⟩
  | refine ⟨(by unfold CDiv; omega), ?_⟩
  | fail "rd1")
local macro_rules | `(tactic| walk_at "rd") => `(tactic| repeat' (walk_at "rd1"))
open Own
section
variable {P : Program} {w : World} {K : PySem.W.Frag} {mg : Str → Option Value} {base : Heap} {A : Ad}
def f2 (H : Hp) (e l : Addr) : Hp := er (er H e) l
end
end K5
set_option Elab.async false
set_option linter.all false
set_option maxRecDepth 100000
set_option maxHeartbeats 4000000
namespace K5
open PySem L2
local macro_rules | `(tactic| walk_at "rd1") => `(tactic| first
  | refine ⟨_, _, rfl, rfl, ?_⟩
  | refine ⟨_, _, _, _, rfl, rfl, SqL.of (by assumption), rfl, ?_⟩
  | refine ⟨_, _, _, _, rfl, rfl, (by assumption), rfl, ?_⟩
  | refine .inl ⟨_, rfl, ?_⟩
  | refine ⟨_, rfl, ?_⟩
  | refine ⟨(by unfold CMul; omega), ?_⟩
  | refine ⟨(by unfold CPow; omega), ?_⟩
  | refine ⟨(by (try dsimp only); omega), ?_⟩
  | refine ⟨(by unfold CDiv; omega), ?_⟩
  | fail "rd1")
local macro_rules | `(tactic| walk_at "rd") => `(tactic| repeat' (walk_at "rd1"))
open Own
section
variable {P : Program} {w : World} {K : PySem.W.Frag} {mg : Str → Option Value} {base : Heap} {A : Ad}
theorem tn_nil {σ : St} {H : Hp} {k : List V → Hp → Prop} (h : k [] H) : tNil σ H k := h
def nmB (s : Str) : Bool := decide (s ≠ "clock") && (decide (1 ≤ s.length) && (decide (s.length ≤ 8) && s.cps.toList.all fun c => decide (c ∈ letters.cps.toList)))
theorem nm_nmB {s : Str} (h : Nm s) : nmB s = true := by
  unfold nmB
  rw [decide_eq_true h.noclock, decide_eq_true h.pos, decide_eq_true h.most, List.all_eq_true.mpr fun c m => decide_eq_true (h.low c m)]
  rfl
def spIsNameA (K : PySem.W.Frag) : Sp := fun vs H Q _ => ∃ (x : V), vs = [x] ∧ ((∃ s : Str, x = .str s ∧ s.length ≤ 1000 ∧ ∀ H', Same H H' → Q (.bl (nmB s)) H') ∨ ∃ t, TyX K H x (.type t) ∧ kitB t "str" = some false ∧ Q (.bl false) H)
theorem ok_isnameA (T : Txt K mg A) : FnOk P w K mg base CX0 1 A.a_is_name A.d_is_name P_is_name (spIsNameA K) := by
  refine T.f_is_name.ok sc_is_name (fun vs H Q E h => ?_) (fun cdv A' outer s H vs Q E hr h => ?_)
  · obtain ⟨x, rfl, _⟩ := h
    rfl
  · obtain ⟨x, rfl, h⟩ := h
    refine ⟨_, (pss_cons (ps_if (PW.pt (pw_or (pt_not (pt_val (pe_callB call_isi (by rfl) T.isinstance (by decide +kernel) (pa_cons (pv 0) (pa_cons (pe_bltn (v := .ty "str") (u := .type "str") (by rfl) T.str (by decide +kernel) rfl) pa_nil))))) (pw_or1 (pt_cmpR op_eq (pv 0) (pe_glob (v := .str "clock") (by rfl) T.g_CLOCK.choose_spec ⟨_, rfl⟩) (nomark _)))))
 (pss_one (ps_ret pe_bl))
 pss_nil)
 (pss_one (ps_ret (pe_and (pe_chain op_le op_le pe_int (pe_callB call_len_str (by rfl) T.len PySem.boot_len (pa_cons (pv 0) pa_nil)) (pe_glob (v := .int 8) (by rfl) T.g_LONGEST_NAME.choose_spec ⟨_, rfl⟩)) (pe_one (pe_callB (cr_all rfl) (by rfl) T.all (by decide +kernel) (pa_cons (pe_lc (own := [("sign", 1)]) (g := gName 1) (by rfl) sc_is_name.nd (pi_str (pv 0)) (blkOk_by (N := N_is_name) (sc := defScope s_is_name) (by decide +kernel)) (fun _ _ _ _ _ => pg_name (i := 1) sc_is_name.nd rfl (Or.inl rfl)) (fun _ _ _ _ _ => pts_nil) (fun _ _ _ _ _ => (pe_cmpR op_in_sign (pv 1) (pe_glob (v := .str "abcdefghijklmnopqrstuvwxyz") (by rfl) T.g_LETTERS.choose_spec ⟨_, rfl⟩) (by rfl)))) pa_nil))))))), ?_⟩
    rcases h with ⟨z, rfl, zl, k⟩ | ⟨t, ht, hk, k⟩
    · refine ⟨_, rfl, _, _, .type "str", _, true, rfl, .ty _, .base (.str _), kit_ty (by decide +kernel), _, rfl, iteF ?_⟩
      have hsz : z.length ≤ sizeLine := Nat.le_trans zl (by decide)
      refine ⟨_, rfl, rfl, _, rfl, ite2 (fun q => ?_) (fun c1 => ?_)⟩
      · have e : z = "clock" := V.str.inj (of_decide_eq_true q)
        have := k _ (Same.refl _)
        unfold nmB at this
        rwa [show decide (z ≠ "clock") = false from decide_eq_false (fun n => n e), Bool.false_and] at this
      have n1 : z ≠ "clock" := fun e => c1 (by rw [e]; exact decide_eq_true rfl)
      unfold nmB at k
      rw [decide_eq_true n1, Bool.true_and] at k
      refine ⟨_, rfl, z, rfl, hsz, _, _, rfl, rfl, _, rfl, ite2 (fun c2 => ?_) (fun c2 => ?_)⟩
      · have c2 : (1 : Int) ≤ z.length := of_decide_eq_true c2
        rw [decide_eq_true (show 1 ≤ z.length by omega), Bool.true_and] at k
        refine ⟨_, _, rfl, rfl, _, rfl, ite2 (fun c3 => ?_) (fun c3 => ?_)⟩
        · have c3 : (z.length : Int) ≤ 8 := of_decide_eq_true c3
          rw [decide_eq_true (show z.length ≤ 8 by omega), Bool.true_and] at k
          refine ⟨_, rfl, z, rfl, fun D hD => lc_it walk_str (fun i H' => Same H H' ∧ H' D = some (.lst (((z.cps.toList.take i).map fun c => decide (c ∈ letters.cps.toList)).map V.bl))) ⟨Same.new hD, upd_same⟩ (fun _ _ _ _ => trivial) ?_ (fun H' q => ?_)⟩
          · rintro i x H' H'' hi ⟨s1, hD'⟩ ⟨rfl, c, hc, rfl⟩
            have hc2 : z.cps.toList[i]? = some c := by rw [Array.getElem?_toList]; exact hc
            refine ⟨rfl, _, rfl, c, letters, rfl, rfl, _, hD', ?_, fun b u e => by rw [upd_ne (ne_of_none e hD)]; exact s1 _ _ e, ?_⟩
            · rw [List.length_map, List.length_map, List.length_take]
              exact Nat.lt_of_le_of_lt (show min i _ ≤ 1000 by have : i < z.length := hi; omega) (by decide)
            · rw [upd_same, List.take_succ, hc2, List.map_append, List.map_append]; rfl
          · obtain ⟨s1, hD⟩ := q
            rw [show z.cps.size = z.cps.toList.length from Array.length_toList.symm, List.take_length] at hD
            refine ⟨D, _, rfl, SqL.of hD, ?_⟩
            have := k _ s1
            rw [List.all_map]
            exact this
        · have c3 : ¬ (z.length : Int) ≤ 8 := fun e => c3 (decide_eq_true e)
          rw [decide_eq_false (show ¬ z.length ≤ 8 by omega), Bool.false_and] at k
          exact k _ (Same.refl _)
      · have c2 : ¬ (1 : Int) ≤ z.length := fun e => c2 (decide_eq_true e)
        rw [decide_eq_false (show ¬ 1 ≤ z.length by omega), Bool.false_and] at k
        exact ⟨_, rfl, iteF (k _ (Same.refl _))⟩
    · exact ⟨_, rfl, _, _, .type t, _, false, rfl, .ty _, ht, kit_ty hk, _, rfl, iteT k⟩
/-- what a key is as data -/
def keyP : Key → PyData
  | .inl i => .int i
  | .inr s => .str s
def kdM : MK → PyData
  | .inl s => .str s
  | .inr (.inl none) => .none
  | .inr (.inl (some i)) => .int i
  | .inr (.inr ks) => .tuple (ks.map keyP)
theorem keyP_dp {H : Hp} : ∀ ks : List Key, DpAll K H (ks.map kV) (ks.map keyP)
  | [] => .nil
  | .inl i :: r => .cons (.int i) (keyP_dp r)
  | .inr s :: r => .cons (.str s) (keyP_dp r)
theorem keyL_dp {H : Hp} {y : V} {k : MK} (h : KeyL K H y k) : Dp K H y (kdM k) := by
  rcases k with s | (_ | i) | ks
  · cases h; exact .str s
  · cases h; exact .non
  · cases h; exact .int i
  · obtain ⟨a, rfl, q⟩ := h
    exact .tup q (keyP_dp ks)
theorem keyAt_L {H : Hp} {x : MK × V × V} (h : KeyAt H x) : KeyL K H x.2.1 x.1 := by
  obtain ⟨k, y, v⟩ := x
  rcases k with s | (_ | i) | ks
  · exact h
  · exact h
  · exact h
  · obtain ⟨a, e, q⟩ := h
    exact ⟨a, e, SqT.of q⟩
def isBD : PyData → Bool
  | .bool _ => true
  | _ => false
def isTD : PyData → Bool
  | .tuple _ => true
  | _ => false
def isSD : PyData → Bool
  | .str _ => true
  | _ => false
def alD (a b : PyData) : Bool := (isBD a == isBD b) && PyData.eqv a b
theorem kit_tuple : ∀ d : PyData, kitB (kindOf d) "tuple" = some (isTD d)
  | .none => (by decide +kernel : kitB "NoneType" "tuple" = some false)
  | .bool _ => (by decide +kernel : kitB "bool" "tuple" = some false)
  | .int _ => (by decide +kernel : kitB "int" "tuple" = some false)
  | .str _ => (by decide +kernel : kitB "str" "tuple" = some false)
  | .list _ => (by decide +kernel : kitB "list" "tuple" = some false)
  | .tuple _ => (by decide +kernel : kitB "tuple" "tuple" = some true)
  | .dict _ => (by decide +kernel : kitB "dict" "tuple" = some false)
theorem kit_bool : ∀ d : PyData, kitB (kindOf d) "bool" = some (isBD d)
  | .none => (by decide +kernel : kitB "NoneType" "bool" = some false)
  | .bool _ => (by decide +kernel : kitB "bool" "bool" = some true)
  | .int _ => (by decide +kernel : kitB "int" "bool" = some false)
  | .str _ => (by decide +kernel : kitB "str" "bool" = some false)
  | .list _ => (by decide +kernel : kitB "list" "bool" = some false)
  | .tuple _ => (by decide +kernel : kitB "tuple" "bool" = some false)
  | .dict _ => (by decide +kernel : kitB "dict" "bool" = some false)
theorem kit_str : ∀ d : PyData, kitB (kindOf d) "str" = some (isSD d)
  | .none => (by decide +kernel : kitB "NoneType" "str" = some false)
  | .bool _ => (by decide +kernel : kitB "bool" "str" = some false)
  | .int _ => (by decide +kernel : kitB "int" "str" = some false)
  | .str _ => (by decide +kernel : kitB "str" "str" = some true)
  | .list _ => (by decide +kernel : kitB "list" "str" = some false)
  | .tuple _ => (by decide +kernel : kitB "tuple" "str" = some false)
  | .dict _ => (by decide +kernel : kitB "dict" "str" = some false)
/-- alike of data that are no two tuples of the same length -/
def spAlikeD (K : PySem.W.Frag) : Sp := fun vs H Q _ => ∃ (x y : V) (d e : PyData), vs = [x, y] ∧ Dp K H x d ∧ Dp K H y e ∧ SeqAt.shaped d = true ∧ SeqAt.shaped e = true ∧ (∀ ds es, d = .tuple ds → e = .tuple es → ds.length ≠ es.length) ∧ Q (.bl (alD d e)) H
theorem eqv_tup : ∀ {ds es : List PyData}, ds.length ≠ es.length → PyData.eqv (.tuple ds) (.tuple es) = false := fun {ds es} h => by
  rw [PyData.eqv]
  have key : ∀ as bs : List PyData, as.length ≠ bs.length → PyData.eqvAll as bs = false := fun as => by
    induction as with
    | nil => intro bs h; cases bs with
      | nil => exact absurd rfl h
      | cons b bs => simp [PyData.eqvAll]
    | cons a as ih => intro bs h; cases bs with
      | nil => simp [PyData.eqvAll]
      | cons b bs => simp [PyData.eqvAll, ih bs (by simpa using h)]
  exact key ds es h
theorem ok_alikeD (T : Txt K mg A) : FnOk P w K mg base CX0 1 A.a_alike A.d_alike P_alike (spAlikeD K) := by
  have G_alike : FnOk P w K mg base CX0 0 A.a_alike A.d_alike P_alike (fun _ _ _ _ => False) := no_fn fun _ _ _ _ h => h
  refine T.f_alike.ok sc_alike (fun vs H Q E h => ?_) (fun cdv A' outer s H vs Q E hr h => ?_)
  · obtain ⟨x, y, d, e, rfl, _⟩ := h
    rfl
  · obtain ⟨x, y, d, e, rfl, hx, hy, sd, se, nt, k⟩ := h
    refine ⟨_, (pss_cons (ps_if (PW.pt (pw_and (pt_val (pe_callB call_isi (by rfl) T.isinstance (by decide +kernel) (pa_cons (pv 0) (pa_cons (pe_bltn (v := .ty "tuple") (u := .type "tuple") (by rfl) T.tuple (by decide +kernel) rfl) pa_nil)))) (pw_and1 (pt_val (pe_callB call_isi (by rfl) T.isinstance (by decide +kernel) (pa_cons (pv 1) (pa_cons (pe_bltn (v := .ty "tuple") (u := .type "tuple") (by rfl) T.tuple (by decide +kernel) rfl) pa_nil)))))))
 (pss_cons (ps_if (pt_cmpR op_ne (pe_callB call_len_seq (by rfl) T.len PySem.boot_len (pa_cons (pv 0) pa_nil)) (pe_callB call_len_seq (by rfl) T.len PySem.boot_len (pa_cons (pv 1) pa_nil)) (nomark _))
 (pss_one (ps_ret pe_bl))
 pss_nil)
 (pss_one (ps_ret (pe_callB (cr_all rfl) (by rfl) T.all (by decide +kernel) (pa_cons (pe_lc (own := [("mine", 2), ("yours", 3)]) (g := gTup K 2 (gCons (gName 2) (gCons (gName 3) gNil))) (by rfl) sc_alike.nd (pi_zip (by rfl) T.zip (pa_cons (pv 0) (pa_cons (pv 1) pa_nil))) (blkOk_by (N := N_alike) (sc := defScope s_alike) (by decide +kernel)) (fun _ _ _ _ _ => (pg_tup rfl (pgs_cons (pg_name (i := 2) sc_alike.nd rfl (Or.inl rfl)) (pgs_cons (pg_name (i := 3) sc_alike.nd rfl (Or.inl rfl)) pgs_nil)))) (fun _ _ _ _ _ => pts_nil) (fun _ _ _ _ _ => (pe_call G_alike (hr.mono (by omega)) (by rfl) T.g_alike T.f_alike.kp T.b_alike .nil pass0 (pa_cons (pv 2) (pa_cons (pv 3) pa_nil))))) pa_nil)))))
 pss_nil)
 (pss_one (ps_ret (pe_and (pe_cmpR op_eq (pe_callB call_isi (by rfl) T.isinstance (by decide +kernel) (pa_cons (pv 0) (pa_cons (pe_bltn (v := .ty "bool") (u := .type "bool") (by rfl) T.bool (by decide +kernel) rfl) pa_nil))) (pe_callB call_isi (by rfl) T.isinstance (by decide +kernel) (pa_cons (pv 1) (pa_cons (pe_bltn (v := .ty "bool") (u := .type "bool") (by rfl) T.bool (by decide +kernel) rfl) pa_nil))) (nomark _)) (pe_one (pe_cmpR (op_eqD hr.units) (pv 0) (pv 1) (nomark _))))))), ?_⟩
    have kt : (isBD d == isBD e) = true → Q (.bl (PyData.eqv d e)) H := fun z => by
      unfold alD at k
      rwa [z, Bool.true_and] at k
    have kf : (isBD d == isBD e) = false → Q (.bl false) H := fun z => by
      unfold alD at k
      rwa [z, Bool.false_and] at k
    have bb : decide (V.bl (isBD d) = V.bl (isBD e)) = (isBD d == isBD e) := by cases isBD d <;> cases isBD e <;> decide
    cases td : isTD d with
    | false =>
      refine ⟨_, rfl, _, _, .type (kindOf d), _, false, rfl, .ty _, tyD hx, kit_ty (td ▸ kit_tuple d), _, rfl, iteF ?_⟩
      refine ⟨_, rfl, _, _, .type (kindOf d), _, isBD d, rfl, .ty _, tyD hx, kit_ty (kit_bool d), _, rfl, _, _, .type (kindOf e), _, isBD e, rfl, .ty _, tyD hy, kit_ty (kit_bool e), rfl, _, rfl, ?_⟩
      rw [bb]
      cases cb : (isBD d == isBD e) with
      | false => exact iteF (kf cb)
      | true => exact iteT ⟨_, rfl, _, rfl, _, _, hx, hy, sd, se, kt cb⟩
    | true =>
      cases te : isTD e with
      | false =>
        refine ⟨_, rfl, _, _, .type (kindOf d), _, true, rfl, .ty _, tyD hx, kit_ty (td ▸ kit_tuple d), _, rfl, iteT ?_⟩
        refine ⟨_, rfl, _, _, .type (kindOf e), _, false, rfl, .ty _, tyD hy, kit_ty (te ▸ kit_tuple e), _, rfl, iteF ?_⟩
        refine ⟨_, rfl, _, _, .type (kindOf d), _, isBD d, rfl, .ty _, tyD hx, kit_ty (kit_bool d), _, rfl, _, _, .type (kindOf e), _, isBD e, rfl, .ty _, tyD hy, kit_ty (kit_bool e), rfl, _, rfl, ?_⟩
        rw [bb]
        cases cb : (isBD d == isBD e) with
        | false => exact iteF (kf cb)
        | true => exact iteT ⟨_, rfl, _, rfl, _, _, hx, hy, sd, se, kt cb⟩
      | true =>
        refine ⟨_, rfl, _, _, .type (kindOf d), _, true, rfl, .ty _, tyD hx, kit_ty (td ▸ kit_tuple d), _, rfl, iteT ?_⟩
        refine ⟨_, rfl, _, _, .type (kindOf e), _, true, rfl, .ty _, tyD hy, kit_ty (te ▸ kit_tuple e), _, rfl, iteT ?_⟩
        cases hx with
        | @tup a xs ds qa hA =>
          cases hy with
          | @tup b ys es qb hB =>
            have ne := nt _ _ rfl rfl
            refine ⟨_, rfl, a, _, rfl, .inr qa, _, rfl, b, _, rfl, .inr qb, rfl, ?_⟩
            refine ⟨_, rfl, ite2 (fun _ => ?_) (fun c => ?_)⟩
            · have e0 : alD (.tuple ds) (.tuple es) = false := by unfold alD; rw [eqv_tup ne, Bool.and_false]
              rw [e0] at k
              exact k
            · have := dpLen hA
              have := dpLen hB
              exact absurd (by simpa using fun z : (xs.length : Int) = ys.length => ne (by omega)) c
          | _ => cases te
        | _ => cases td
/-- whether data is the clock or like one of the keys -/
def hookB (d : PyData) (ks : List MK) : Bool := PyData.eqv d (.str "clock") || ks.any fun k => alD d (kdM k)
/-- data that is asked for among keys -/
structure AskK (d : PyData) (ks : List MK) : Prop where
  sh : SeqAt.shaped d = true
  kd : ∀ k ∈ ks, SeqAt.shaped (kdM k) = true
  nt : ∀ k ∈ ks, ∀ ds es, d = .tuple ds → kdM k = .tuple es → ds.length ≠ es.length
  len : ks.length ≤ 100
def spHookM (P : Program) (w : World) (K : PySem.W.Frag) : Sp := fun vs H Q _ => ∃ (x : V) (d : Addr) (dx : PyData) (od : Obj) (xs : List (MK × V × V)), vs = [x, .ref d] ∧ Dp K H x dx ∧ AskK dx (xs.map (·.1)) ∧ H d = some (.frz od (MxO P w d xs)) ∧ (∀ z ∈ xs, KeyAt H z) ∧ ∀ H', Same H H' → Q (.bl (hookB dx (xs.map (·.1)))) H'
theorem ok_hookM (T : Txt K mg A) : FnOk P w K mg base CX0 2 A.a_is_hook A.d_is_hook P_is_hook (spHookM P w K) := by
  have G_alike : FnOk P w K mg base CX0 1 A.a_alike A.d_alike P_alike (spAlikeD K) := ok_alikeD T
  refine T.f_is_hook.ok sc_is_hook (fun vs H Q E h => ?_) (fun cdv A' outer s H vs Q E hr h => ?_)
  · obtain ⟨x, d, dx, od, xs, rfl, _⟩ := h
    rfl
  · obtain ⟨x, d, dx, od, xs, rfl, hx, ask, hd, hk, k⟩ := h
    refine ⟨_, (pss_one (ps_ret (pe_or (pe_cmpR (op_eqD hr.units) (pv 0) (pe_glob (v := .str "clock") (by rfl) T.g_CLOCK.choose_spec ⟨_, rfl⟩) (nomark _)) (pe_one (pe_callB (cr_any rfl) (by rfl) T.any (by decide +kernel) (pa_cons (pe_lc (own := [("key", 2)]) (g := gName 2) (by rfl) sc_is_hook.nd (Own.pi_mx (P := P) (w := w) rfl rfl (pv 1)) (blkOk_by (N := N_is_hook) (sc := defScope s_is_hook) (by decide +kernel)) (fun _ _ _ _ _ => pg_name (i := 2) sc_is_hook.nd rfl (Or.inl rfl)) (fun _ _ _ _ _ => pts_nil) (fun _ _ _ _ _ => (pe_call G_alike (hr.mono (by omega)) (by rfl) T.g_alike T.f_alike.kp T.b_alike .nil pass0 (pa_cons (pv 0) (pa_cons (pv 2) pa_nil))))) pa_nil)))))), ?_⟩
    unfold hookB at k
    refine ⟨_, rfl, _, _, hx, .str _, ask.sh, by decide +kernel, _, rfl, ite2 (fun q => ?_) (fun q => ?_)⟩
    · rw [q, Bool.true_or] at k
      exact k _ (Same.refl _)
    rw [Bool.not_eq_true] at q
    rw [show PyData.eqv dx (.str "clock") = false from q, Bool.false_or] at k
    have kl := ask.len
    rw [List.length_map] at kl
    refine ⟨_, rfl, d, od, xs, rfl, hd, fun D hD => lc_it walk_mx (fun i H' => Same H H' ∧ H' D = some (.lst ((((xs.map (·.1)).take i).map fun k => alD dx (kdM k)).map V.bl))) ⟨Same.new hD, upd_same⟩ (fun i H' _ z => z.1 _ _ hd) ?_ (fun H' z => ?_)⟩
    · rintro i y H' H'' hi ⟨s1, hD'⟩ ⟨rfl, z, hz, rfl⟩
      have mz := List.mem_of_getElem? hz
      have mk : z.1 ∈ xs.map (·.1) := List.mem_map.mpr ⟨z, mz, rfl⟩
      refine ⟨rfl, _, rfl, _, rfl, x, z.2.1, dx, kdM z.1, rfl, dpSame s1 hx, dpSame s1 (keyL_dp (keyAt_L (hk z mz))), ask.sh, ask.kd _ mk, ask.nt _ mk, _, hD', ?_, fun b u e => by rw [upd_ne (ne_of_none e hD)]; exact s1 _ _ e, ?_⟩
      · rw [List.length_map, List.length_map, List.length_take, List.length_map]
        exact Nat.lt_of_le_of_lt (show min i _ ≤ 100 by omega) (by decide)
      · rw [upd_same, List.take_succ, List.getElem?_map, hz, List.map_append, List.map_append]; rfl
    · obtain ⟨s1, hD'⟩ := z
      rw [← List.length_map (f := fun z : MK × V × V => z.1), List.take_length] at hD'
      refine ⟨D, _, rfl, SqL.of hD', ?_⟩
      have := k _ s1
      rw [List.any_map]
      exact this
def SeqO : HO → Bool
  | .lst _ => true
  | .tup _ => true
  | .frz _ (.lst _) => true
  | .frz _ (.tup _) => true
  | _ => false
def SeqKept (H H' : Hp) : Prop := ∀ a o, H a = some o → SeqO o = true → H' a = some o
theorem sql_kept {H H' : Hp} {a : Addr} {xs : List V} (s : SeqKept H H') (h : SqL K H a xs) : SqL K H' a xs := h.imp_left fun z => z.imp (fun e => s _ _ e rfl) fun ⟨o, e⟩ => ⟨o, s _ _ e rfl⟩
theorem sqt_kept {H H' : Hp} {a : Addr} {xs : List V} (s : SeqKept H H') (h : SqT K H a xs) : SqT K H' a xs := h.imp_left fun z => z.imp (fun e => s _ _ e rfl) fun ⟨o, e⟩ => ⟨o, s _ _ e rfl⟩
mutual
theorem dp_kept {H H' : Hp} (s : SeqKept H H') : ∀ (d : PyData) (x : V), Dp K H x d → Dp K H' x d
  | .none, _, h => by cases h; exact .non
  | .bool b, _, h => by cases h; exact .bl b
  | .int i, _, h => by cases h; exact .int i
  | .str z, _, h => by cases h; exact .str z
  | .list ds, _, h => by
    cases h with
    | lst q hA => exact .lst (sql_kept s q) (dpAll_kept s ds _ hA)
  | .tuple ds, _, h => by
    cases h with
    | tup q hA => exact .tup (sqt_kept s q) (dpAll_kept s ds _ hA)
  | .dict _, _, h => by cases h
theorem dpAll_kept {H H' : Hp} (s : SeqKept H H') : ∀ (ds : List PyData) (xs : List V), DpAll K H xs ds → DpAll K H' xs ds
  | [], _, h => by cases h; exact .nil
  | d :: ds, _, h => by
    cases h with
    | cons a b => exact .cons (dp_kept s d _ a) (dpAll_kept s ds _ b)
end
theorem kept_upd {H : Hp} {d : Addr} {u o : HO} (e : H d = some u) (n : SeqO u = false) : SeqKept H (upd H d o) := fun a z h q => by
  by_cases c : a = d
  · rw [c, e] at h
    cases h
    rw [n] at q
    cases q
  · rw [upd_ne c]; exact h
theorem keyAt_kept {H H' : Hp} {x : MK × V × V} (s : SeqKept H H') (h : KeyAt H x) : KeyAt H' x := h.up fun a ys e => s _ _ e rfl
structure OdR (K : PySem.W.Frag) (H : Hp) (xs : List (MK × V × V)) (dv : MK → PyData) : Prop where
  key : ∀ z ∈ xs, KeyAt H z
  nd : (xs.map (·.1)).Nodup
  val : ∀ z ∈ xs, Dp K H z.2.2 (dv z.1)
  kw : ∀ z ∈ xs, (kdM z.1).depth < 2 ∧ wid (kdM z.1) = true ∧ SeqAt.shaped (kdM z.1) = true ∧ ∀ s, z.1 = .inl s → s.length ≤ 1000
  len : xs.length ≤ 100
theorem OdR.kept {H H' : Hp} {xs : List (MK × V × V)} {dv : MK → PyData} (h : OdR K H xs dv) (s : SeqKept H H') : OdR K H' xs dv := ⟨fun z m => keyAt_kept s (h.key z m), h.nd, fun z m => dp_kept s _ _ (h.val z m), h.kw, h.len⟩
theorem same_kept {H H' : Hp} (s : Same H H') : SeqKept H H' := fun a o e _ => s _ _ e
theorem OdR.get {H : Hp} {xs : List (MK × V × V)} {dv : MK → PyData} (h : OdR K H xs dv) {i : Nat} {z : MK × V × V} (hz : xs[i]? = some z) : valV (xs.map fun x => (x.1, x.2.2)) z.1 = some z.2.2 := val_of h.nd hz
def nmK : MK → Bool
  | .inl s => nmB s
  | _ => false
/-- who is told of a key that is refused -/
def RaK (K : PySem.W.Frag) (C : Addr) (x : V) (H : Hp) (E : XK) : Prop := ∀ y dd H', Same H H' → H' dd = some (.xd [("name", y)]) → SD K 2 H' x y → E (.ref C) (some dd) H'
theorem sd_kept {H H' : Hp} {n : Nat} {x y : V} (s : SeqKept H H') (k : ∀ a, H a = some (.dK []) → H' a = some (.dK [])) (h : SD K n H x y) : SD K n H' x y := h.imp (fun ⟨d, a, b, c⟩ => ⟨d, dp_kept s _ _ a, dp_kept s _ _ b, c⟩) fun ⟨a, b, e1, e2, h1, h2⟩ => ⟨a, b, e1, e2, k _ h1, k _ h2⟩
theorem mk_ty {H : Hp} {z : MK × V × V} (h : KeyAt H z) (n : ∀ s, z.1 ≠ .inl s) : TyX K H z.2.1 (.type (kindOf (kdM z.1))) ∧ kitB (kindOf (kdM z.1)) "str" = some false := by
  refine ⟨tyD (keyL_dp (keyAt_L h)), ?_⟩
  rw [kit_str]
  obtain ⟨k, y, v⟩ := z
  rcases k with s | (_ | i) | ks
  · exact absurd rfl (n s)
  · rfl
  · rfl
  · rfl
theorem ok_bri (T : Txt K mg A) (n : Nat) : FnOk P w K mg base CX0 (n + 1) A.a_BadRow___init__ A.d_BadRow___init__ P_BadRow___init__ (spNDI K n A.a_BadRow) := by
  have G_copied : FnOk P w K mg base CX0 n A.a_copied A.d_copied P_copied (spCopy K n) := ok_copied T n
  refine T.f_BadRow___init__.ok sc_BadRow___init__ (fun vs H Q E h => ?_) (fun cdv A' outer s H vs Q E hr h => ?_)
  · obtain ⟨a, x, G, rfl, _⟩ := h
    rfl
  · obtain ⟨a, x, G, rfl, ha, ga, ⟨sG, hx⟩, k⟩ := h
    refine ⟨_, (pss_one (ps_ost (pv 0) (pe_call G_copied (hr.mono (by omega)) (by rfl) T.g_copied T.f_copied.kp T.b_copied .nil pass0 (pa_cons (pv 1) pa_nil)))), ?_⟩
    rcases hx with ⟨d, hx, hd, hw⟩ | ⟨a2, rfl, ha2, hn⟩
    · refine ⟨_, rfl, x, rfl, .inl ⟨d, G, sG, hx, hd, hw, fun y G' Hc s1 mo sG' hy => ⟨_, rfl, a, A.a_BadRow, rfl, T.xBr, T.nBr, .inl ⟨s1 _ _ ha, fun dx h1 h2 => k y Hc dx s1 h1 h2 fun H' hh => .inl ⟨d, ?_, ?_, hd, hw⟩⟩⟩⟩⟩
      · exact dpSame (fun b u e => hh b u (s1 _ _ (sG _ _ e)) fun z => by rw [z, ga] at e; cases e) hx
      · refine dpSame (fun b u e => hh b u (sG' _ _ e) fun z => ?_) hy
        subst z
        rcases mo.new b (by rw [e]; exact fun z => nomatch z) with z | z
        · exact z ga
        · rw [ha] at z; cases z
    · refine ⟨_, rfl, _, rfl, .inr ⟨a2, rfl, ha2, hn, fun b Hc s1 hb0 hb => ⟨_, rfl, a, A.a_BadRow, rfl, T.xBr, T.nBr, .inl ⟨s1 _ _ ha, fun dx h1 h2 => k _ Hc dx s1 h1 h2 fun H' hh => .inr ⟨a2, b, rfl, rfl, ?_, ?_⟩⟩⟩⟩⟩
      · exact hh _ _ (s1 _ _ ha2) fun z => by rw [z, ha] at ha2; exact exo_dK (Option.some.inj ha2)
      · exact hh _ _ hb fun z => by rw [z, ha] at hb0; cases hb0
/-- is_name of a key -/
theorem key_name {H : Hp} {z : MK × V × V} {Q : VK} {E : XK} (h : KeyAt H z) (l : ∀ s, z.1 = .inl s → s.length ≤ 1000) (k : ∀ H', Same H H' → Q (.bl (nmK z.1)) H') : spIsNameA K [z.2.1] H Q E := by
  refine ⟨_, rfl, ?_⟩
  obtain ⟨m, y, v⟩ := z
  rcases m with s | (_ | i) | ks
  · exact .inl ⟨s, h, l s rfl, k⟩
  · obtain ⟨a, b⟩ := mk_ty (K := K) h fun s z => nomatch z
    exact .inr ⟨_, a, b, k _ (Same.refl _)⟩
  · obtain ⟨a, b⟩ := mk_ty (K := K) h fun s z => nomatch z
    exact .inr ⟨_, a, b, k _ (Same.refl _)⟩
  · obtain ⟨a, b⟩ := mk_ty (K := K) h fun s z => nomatch z
    exact .inr ⟨_, a, b, k _ (Same.refl _)⟩
def spChkRM (P : Program) (w : World) (K : PySem.W.Frag) (C : Addr) : Sp := fun vs H _ E => ∃ (d : Addr) (xs : List (MK × V × V)) (dv : MK → PyData) (k : Nat) (z : MK × V × V), vs = [.ref d] ∧ H d = some (MxO P w d xs) ∧ OdR K H xs dv ∧ (∀ q ∈ xs, AskK (dv q.1) (xs.map (·.1))) ∧
  (∀ i q, i < k → xs[i]? = some q → (nmK q.1 && hookB (dv q.1) (xs.map (·.1))) = true) ∧ xs[k]? = some z ∧ (nmK z.1 && hookB (dv z.1) (xs.map (·.1))) = false ∧ RaK K C z.2.1 H E
theorem ok_chkrM (T : Txt K mg A) : FnOk P w K mg base (L2.CX P w) 5 A.a_check_rows A.d_check_rows P_check_rows (spChkRM P w K A.a_BadRow) := by
  have G_is_name : FnOk P w K mg base CX0 1 A.a_is_name A.d_is_name P_is_name (spIsNameA K) := ok_isnameA T
  have G_is_hook : FnOk P w K mg base CX0 2 A.a_is_hook A.d_is_hook P_is_hook (spHookM P w K) := ok_hookM T
  have G_BadRow___init__ : FnOk P w K mg base CX0 3 A.a_BadRow___init__ A.d_BadRow___init__ P_BadRow___init__ (spNDI K 2 A.a_BadRow) := ok_bri T 2
  refine T.f_check_rows.okX sc_check_rows (fun vs H Q E h => ?_) (fun cdv A' outer s H vs Q E hr h => ?_)
  · obtain ⟨d, xs, dv, k, z, rfl, _⟩ := h
    rfl
  · obtain ⟨d, xs, dv, k, z, rfl, hd, O, ask, good, hz, bad, ra⟩ := h
    refine ⟨_, (pss_one (ps_lock (ps_for (passes_of rfl) rfl (Own.pi_mx (P := P) (w := w) rfl rfl (pv 0)) (pg_name (i := 1) sc_check_rows.nd rfl (Or.inl rfl))
 (pss_one (ps_if (PW.pt (pw_or (pt_not (pt_val (pe_call G_is_name (hr.mono (by omega)) (by rfl) T.g_is_name T.f_is_name.kp T.b_is_name .nil pass0 (pa_cons (pv 1) pa_nil)))) (pw_or1 (pt_not (pt_val (pe_call G_is_hook (hr.mono (by omega)) (by rfl) T.g_is_hook T.f_is_hook.kp T.b_is_hook .nil pass0 (pa_cons (Own.pe_rget (P := P) (w := w) (K := K) rfl rfl rfl (hu_of hr) (pv 0) (pv 1) (fun _ _ => rfl)) (pa_cons (pv 0) pa_nil))))))))
 (pss_one (ps_raise rfl (Own.takes_unlock (takes_of rfl rfl rfl rfl)) (pmk_oex T.xBr T.iBr T.tBr G_BadRow___init__ (hr.mono (by omega)) T.b_BadRow___init__ .nil pass0 (by rfl) T.g_BadRow (pa_cons (pv 1) pa_nil))))
 pss_nil))))), ?_⟩
    refine ⟨d, _, hd, trivial, fun od => ?_⟩
    have hF := upd_same (H := H) (a := d) (o := .frz od (MxO P w d xs))
    have OF := O.kept (kept_upd (o := .frz od (MxO P w d xs)) hd rfl)
    have kl : k < xs.length := (List.getElem?_eq_some_iff.mp hz).1
    refine ⟨_, rfl, d, od, xs, rfl, hF, for_it walk_mx (fun i σ' H' => i ≤ k ∧ ∃ y, σ' = [some (.ref d), y] ∧ Same (upd H d (.frz od (MxO P w d xs))) H') ⟨Nat.zero_le _, _, rfl, Same.refl _⟩ (fun i σ' H' _ ⟨_, _, _, e⟩ => e _ _ hF) ?_ (fun σ' H' z => absurd (show xs.length ≤ k from z.1) (by omega))⟩
    rintro i x σ' H' H'' hi ⟨ik, y, rfl, s1⟩ ⟨rfl, q, hq, rfl⟩
    have mq := List.mem_of_getElem? hq
    have O1 := OF.kept (same_kept s1)
    have raise : ∀ H3, Same H'' H3 → i = k → tMkO A.a_BadRow (spNDI K 2 A.a_BadRow) [] (tCons (tVar 1) tNil) [some (.ref d), some q.2.1] H3 (fun cls d' H' => ∃ p od u, H' p = some (.frz od u) ∧ (∀ (o' : Obj) (u' : HO), H p ≠ some (.frz o' u')) ∧ E cls d' (upd H' p u)) := fun H3 s3 e => by
      subst e
      rw [hz] at hq
      cases hq
      have kw := O1.kw z mq
      refine ⟨_, rfl, by show 1 ≤ 1000; decide, fun a na => ⟨a, _, H3, rfl, upd_same, na, exc_pre na (Same.refl _) (.inl ⟨kdM z.1, dpSame s3 (keyL_dp (keyAt_L (O1.key z mq))), kw.1, kw.2.1⟩), fun y Hc dd s5 h1 h2 h3 => ⟨rfl, dd, _, exc_fin (E := fun cls d' H' => ∃ p od u, H' p = some (.frz od u) ∧ (∀ (o' : Obj) (u' : HO), H p ≠ some (.frz o' u')) ∧ E cls d' (upd H' p u)) na s5 h1 h2 h3 (fun y dd H9 s9 hdd sd => ?_) _ rfl⟩⟩⟩
      have S := (s1.trans s3).trans s9
      have h9 := S _ _ hF
      refine ⟨d, od, _, h9, (fun o' u' w => by rw [hd] at w; cases w), ra y dd _ (unfrz hd S) ?_ (sd_kept (kept_upd h9 rfl) (fun a e => by rw [upd_ne (fun w => by rw [w, h9] at e; cases e)]; exact e) sd)⟩
      rw [upd_ne fun w => by rw [w, h9] at hdd; cases hdd]
      exact hdd
    have ek : (nmK q.1 && hookB (dv q.1) (xs.map (·.1))) = false → i = k := fun h => by
      rcases Nat.lt_or_ge i k with c | c
      · rw [good i q c hq] at h; cases h
      · omega
    have lt : (nmK q.1 && hookB (dv q.1) (xs.map (·.1))) = true → i + 1 ≤ k := fun h => by
      rcases Nat.lt_or_ge i k with c | c
      · exact c
      · have e : i = k := by omega
        subst e
        rw [hz] at hq
        cases hq
        rw [bad] at h
        cases h
    refine ⟨_, rfl, tn_nil ?_⟩
    dsimp only [List.append_nil]
    refine key_name (O1.key q mq) (O1.kw q mq).2.2.2 fun H2 s2 => ⟨_, rfl, ?_⟩
    cases cn : nmK q.1 with
    | false => exact iteT (raise _ s2 (ek (by rw [cn]; rfl)))
    | true =>
      refine iteF ?_
      have O2 := O1.kept (same_kept s2)
      have hF2 := (s1.trans s2) _ _ hF
      refine ⟨_, rfl, _, rfl, d, _, q.1, _, rfl, ⟨xs, .inr ⟨od, hF2⟩, O2.key, rfl⟩, keyAt_L (O2.key q mq), O2.get hq, _, rfl, q.2.2, d, dv q.1, od, xs, rfl, O2.val q mq, ask q mq, hF2, O2.key, fun H3 s3 => ⟨_, rfl, ?_⟩⟩
      cases ch : hookB (dv q.1) (xs.map (·.1)) with
      | false => exact iteT (raise _ (s2.trans s3) (ek (by rw [cn, ch]; rfl)))
      | true => exact iteF ⟨lt (by rw [cn, ch]; rfl), _, rfl, (s1.trans s2).trans s3⟩
end
end K5
set_option Elab.async false
set_option linter.all false
set_option maxRecDepth 100000
set_option maxHeartbeats 4000000
namespace K5
open PySem L2
local macro_rules | `(tactic| walk_at "rd1") => `(tactic| first
  | refine ⟨_, _, rfl, rfl, ?_⟩
  | refine ⟨_, _, _, _, rfl, rfl, SqL.of (by assumption), rfl, ?_⟩
  | refine ⟨_, _, _, _, rfl, rfl, (by assumption), rfl, ?_⟩
  | refine .inl ⟨_, rfl, ?_⟩
  | refine ⟨_, rfl, ?_⟩
  | refine ⟨(by unfold CMul; omega), ?_⟩
  | refine ⟨(by unfold CPow; omega), ?_⟩
  | refine ⟨(by (try dsimp only); omega), ?_⟩
  | refine ⟨(by unfold CDiv; omega), ?_⟩
  | fail "rd1")
local macro_rules | `(tactic| walk_at "rd") => `(tactic| repeat' (walk_at "rd1"))
open Own
section
variable {P : Program} {w : World} {K : PySem.W.Frag} {mg : Str → Option Value} {base : Heap} {A : Ad}
def iteH (hk : Str → Str) : Nat → Str → Str
  | 0, x => x
  | j + 1, x => iteH hk j (hk x)
theorem iteH_add (hk : Str → Str) : ∀ (a b : Nat) (x : Str), iteH hk (a + b) x = iteH hk b (iteH hk a x)
  | 0, b, x => by rw [Nat.zero_add]; rfl
  | a + 1, b, x => by
    rw [show a + 1 + b = (a + b) + 1 by omega]
    exact iteH_add hk a b (hk x)
theorem iteH_succ (hk : Str → Str) (j : Nat) (x : Str) : iteH hk (j + 1) x = hk (iteH hk j x) := iteH_add hk j 1 x
/-- on from a hook, so many steps at most -/
def rnd (hk : Str → Str) (nm : Str) : Nat → Str → List Str → List Str × Str
  | 0, h, acc => (acc, h)
  | f + 1, h, acc => if h = "clock" ∨ h = nm then (acc, h) else rnd hk nm f (hk h) (acc ++ [h])
theorem rnd_at (hk : Str → Str) (nm : Str) : ∀ (f : Nat) (x : Str) (acc : List Str), ∃ j, j ≤ f ∧ rnd hk nm f x acc = (acc ++ (List.range j).map (fun i => iteH hk i x), iteH hk j x) ∧ (∀ i, i < j → iteH hk i x ≠ "clock" ∧ iteH hk i x ≠ nm) ∧ (j < f → iteH hk j x = "clock" ∨ iteH hk j x = nm)
  | 0, x, acc => ⟨0, Nat.le_refl _, by simp [rnd, iteH], fun i h => absurd h (Nat.not_lt_zero _), fun h => absurd h (Nat.lt_irrefl _)⟩
  | f + 1, x, acc => by
    unfold rnd
    by_cases c : x = "clock" ∨ x = nm
    · rw [if_pos c]
      exact ⟨0, Nat.zero_le _, by simp [iteH], fun i h => absurd h (Nat.not_lt_zero _), fun _ => c⟩
    · rw [if_neg c]
      obtain ⟨j, h1, h2, h3, h4⟩ := rnd_at hk nm f (hk x) (acc ++ [x])
      refine ⟨j + 1, by omega, ?_, fun i hi => ?_, fun lt => h4 (by omega)⟩
      · rw [h2, List.range_succ_eq_map, List.map_cons, List.map_map, List.append_assoc]
        rfl
      · cases i with
        | zero => exact ⟨fun e => c (.inl e), fun e => c (.inr e)⟩
        | succ i => exact h3 i (by omega)
/-- the round from a name on, if it stands in one -/
def rndOf (hk : Str → Str) (f : Nat) (nm : Str) : Option (List Str) := if (rnd hk nm f (hk nm) [nm]).2 = nm then some (rnd hk nm f (hk nm) [nm]).1 else none
theorem nodup_leS {ns : List Str} : ∀ {L : List Str}, L.Nodup → (∀ s ∈ L, s ∈ ns) → L.length ≤ ns.length := by
  induction ns with
  | nil => intro L _ h; cases L with
    | nil => exact Nat.le_refl _
    | cons a r => exact absurd (h a (.head _)) (by simp)
  | cons n ns ih =>
    intro L nd h
    have h2 : (L.filter fun s => decide (s ≠ n)).length ≤ ns.length := ih (nd.filter _) fun s m => by
      obtain ⟨m1, m2⟩ := List.mem_filter.mp m
      rcases List.mem_cons.mp (h s m1) with e | e
      · exact absurd e (of_decide_eq_true m2)
      · exact e
    have h3 : L.length ≤ (L.filter fun s => decide (s ≠ n)).length + 1 := by
      clear h h2 ih
      induction L with
      | nil => exact Nat.zero_le _
      | cons a r ih =>
        obtain ⟨n1, n2⟩ := List.nodup_cons.mp nd
        by_cases c : a = n
        · have e : (r.filter fun s => decide (s ≠ n)) = r := List.filter_eq_self.mpr fun s m => decide_eq_true fun z => n1 (by rw [c, ← z]; exact m)
          rw [List.filter_cons_of_neg (by simp [c]), e, List.length_cons]
          omega
        · rw [List.filter_cons_of_pos (by simp [c]), List.length_cons, List.length_cons]
          have := ih n2
          omega
    rw [List.length_cons]
    omega
/-- hooks that are told: the clock, or names -/
structure HkOk (ns : List Str) (hk : Str → Str) : Prop where
  nc : ("clock" : Str) ∉ ns
  cl : ∀ n ∈ ns, hk n = "clock" ∨ hk n ∈ ns
theorem HkOk.on {ns : List Str} {hk : Str → Str} (h : HkOk ns hk) {x : Str} (m : x ∈ ns) : ∀ j, (∀ i, i ≤ j → iteH hk i x ≠ "clock") → iteH hk j x ∈ ns
  | 0, _ => m
  | j + 1, z => by
    have := h.on m j fun i q => z i (by omega)
    rw [iteH_succ]
    refine (h.cl _ this).resolve_left fun e => ?_
    have := z (j + 1) (Nat.le_refl _)
    rw [iteH_succ] at this
    exact this e
/-- who comes back comes back within as many steps as there are names -/
theorem back_le {ns : List Str} {hk : Str → Str} (h : HkOk ns hk) {x : Str} (m : x ∈ ns) {j : Nat} (e : iteH hk (j + 1) x = x) (ne : ∀ i, 0 < i → i ≤ j → iteH hk i x ≠ "clock" ∧ iteH hk i x ≠ x) : j + 1 ≤ ns.length := by
  have nd : ((List.range (j + 1)).map fun i => iteH hk i x).Nodup := by
    refine List.pairwise_map.mpr (List.pairwise_iff_getElem.mpr fun a b ha hb lt q => ?_)
    rw [List.getElem_range, List.getElem_range] at q
    rw [List.length_range] at ha hb
    have z : iteH hk (a + (j + 1 - b)) x = x := by
      rw [iteH_add, q, ← iteH_add, show b + (j + 1 - b) = j + 1 by omega]
      exact e
    exact (ne (a + (j + 1 - b)) (by omega) (by omega)).2 z
  have := nodup_leS (ns := ns) nd fun s q => by
    obtain ⟨i, hi, rfl⟩ := List.mem_map.mp q
    have hi := List.mem_range.mp hi
    refine h.on m i fun k hk2 => ?_
    rcases Nat.eq_zero_or_pos k with e0 | e0
    · rw [e0]
      exact fun z => h.nc (by rw [← z]; exact m)
    · exact (ne k e0 (by omega)).1
  rwa [List.length_map, List.length_range] at this
theorem rnd_more {ns : List Str} {hk : Str → Str} (h : HkOk ns hk) {x : Str} (m : x ∈ ns) : rndOf hk ns.length x = rndOf hk (ns.length - 1) x := by
  have pos : 0 < ns.length := List.length_pos_of_mem m
  unfold rndOf
  obtain ⟨j1, a1, a2, a3, a4⟩ := rnd_at hk x ns.length (hk x) [x]
  obtain ⟨j2, b1, b2, b3, b4⟩ := rnd_at hk x (ns.length - 1) (hk x) [x]
  rw [a2, b2]
  dsimp only
  have same : j1 = j2 → (if iteH hk j1 (hk x) = x then some ([x] ++ (List.range j1).map (fun i => iteH hk i (hk x))) else none) = (if iteH hk j2 (hk x) = x then some ([x] ++ (List.range j2).map (fun i => iteH hk i (hk x))) else none) := fun e => by rw [e]
  rcases Nat.lt_trichotomy j1 j2 with c | c | c
  · rcases a4 (by omega) with e | e
    · exact absurd e (b3 j1 c).1
    · exact absurd e (b3 j1 c).2
  · exact same c
  · have n2 : iteH hk j2 (hk x) ≠ x := (a3 j2 c).2
    rw [if_neg n2]
    refine if_neg fun e => ?_
    have lt : j2 = ns.length - 1 := by
      rcases Nat.lt_or_ge j2 (ns.length - 1) with q | q
      · rcases b4 q with z | z
        · exact absurd z (a3 j2 c).1
        · exact absurd z n2
      · omega
    have := back_le h m (j := j1) e fun i i0 i1 => by
      obtain ⟨i, rfl⟩ : ∃ i', i = i' + 1 := ⟨i - 1, by omega⟩
      exact a3 i (by omega)
    omega
theorem least_of {p : Nat → Prop} : ∀ n, p n → ∃ j, j ≤ n ∧ p j ∧ ∀ i, i < j → ¬ p i := fun n => by
  induction n using Nat.strongRecOn with
  | _ n ih =>
    intro h
    by_cases c : ∃ i, i < n ∧ p i
    · obtain ⟨i, lt, q⟩ := c
      obtain ⟨j, a, b⟩ := ih i lt q
      exact ⟨j, by omega, b⟩
    · exact ⟨n, Nat.le_refl _, h, fun i lt q => c ⟨i, lt, q⟩⟩
/-- where no name stands in a round, each leads to the clock -/
theorem to_clock {ns : List Str} {hk : Str → Str} (h : HkOk ns hk) (no : ∀ n ∈ ns, rndOf hk ns.length n = none) {x : Str} (m : x ∈ ns) : ∃ j, j ≤ ns.length ∧ iteH hk j x = "clock" := by
  refine Classical.byContradiction fun c => ?_
  have c : ∀ j, j ≤ ns.length → iteH hk j x ≠ "clock" := fun j hj e => c ⟨j, hj, e⟩
  have mem : ∀ j, j ≤ ns.length → iteH hk j x ∈ ns := fun j hj => h.on m j fun i hi => c i (by omega)
  have dup : ∃ a b, a < b ∧ b ≤ ns.length ∧ iteH hk a x = iteH hk b x := Classical.byContradiction fun q => by
    have nd : ((List.range (ns.length + 1)).map fun i => iteH hk i x).Nodup := by
      refine List.pairwise_map.mpr (List.pairwise_iff_getElem.mpr fun a b ha hb lt e => ?_)
      rw [List.getElem_range, List.getElem_range] at e
      rw [List.length_range] at ha hb
      exact q ⟨a, b, lt, by omega, e⟩
    have := nodup_leS (ns := ns) nd fun s z => by
      obtain ⟨i, hi, rfl⟩ := List.mem_map.mp z
      exact mem i (by have := List.mem_range.mp hi; omega)
    rw [List.length_map, List.length_range] at this
    omega
  obtain ⟨a, b, lt, hb, e⟩ := dup
  have my := mem a (by omega)
  generalize hy : iteH hk a x = y at my e
  have back : iteH hk (b - a) y = y := by
    rw [← hy, ← iteH_add, show a + (b - a) = b by omega, ← e, hy]
  have off : ∀ i, i ≤ b - a → iteH hk i y ≠ "clock" := fun i hi => by
    rw [← hy, ← iteH_add]
    exact c _ (by omega)
  obtain ⟨j, h1, h2, h3, h4⟩ := rnd_at hk y ns.length (hk y) [y]
  have le : j ≤ b - a - 1 := Nat.le_of_not_lt fun q => by
    refine (h3 _ q).2 ?_
    show iteH hk (b - a - 1 + 1) y = y
    rw [show b - a - 1 + 1 = b - a by omega]
    exact back
  have hit : iteH hk j (hk y) = y := (h4 (by omega)).resolve_left fun q => off (j + 1) (by omega) q
  have := no y my
  unfold rndOf at this
  rw [h2] at this
  dsimp only at this
  rw [if_pos hit] at this
  cases this
def depC (hk : Str → Str) : Nat → Str → Nat
  | 0, _ => 0
  | f + 1, x => if x = "clock" then 0 else depC hk f (hk x) + 1
theorem depC_at {hk : Str → Str} : ∀ {f j : Nat} {x : Str}, j ≤ f → iteH hk j x = "clock" → (∀ i, i < j → iteH hk i x ≠ "clock") → depC hk f x = j
  | 0, j, x, h, _, _ => by have : j = 0 := by omega
                           subst this; rfl
  | f + 1, 0, x, h, e, _ => by unfold depC; rw [if_pos (show x = "clock" from e)]
  | f + 1, j + 1, x, h, e, n => by
    unfold depC
    rw [if_neg (show x ≠ "clock" from n 0 (by omega)), depC_at (by omega) (show iteH hk j (hk x) = "clock" from e) fun i hi => n (i + 1) (by omega)]
theorem rok_of {ns : List Str} {hk : Str → Str} (h : HkOk ns hk) (nd : ns.Nodup) (nm : ∀ s ∈ ns, Nm s ∧ PyData.strOk s = true) (hl : ns.length < 63) (no : ∀ n ∈ ns, rndOf hk ns.length n = none) : ROk (depC hk ns.length) (rowsF ns hk) := by
  have key : ∀ n ∈ ns, ∃ j, j ≤ ns.length ∧ depC hk ns.length n = j ∧ iteH hk j n = "clock" ∧ ∀ i, i < j → iteH hk i n ≠ "clock" := fun n m => by
    obtain ⟨j0, l0, e0⟩ := to_clock h no m
    obtain ⟨j, l, e, f⟩ := least_of (p := fun j => iteH hk j n = "clock") j0 e0
    exact ⟨j, by omega, depC_at (by omega) e f, e, f⟩
  refine ⟨by rw [ksR_F]; exact nd, fun s m => nm s (by rwa [ksR_F] at m), by rw [← ksR_len, ksR_F]; omega, fun k b m => ?_, fun s m => ?_⟩
  · obtain ⟨mk, e⟩ := of_mem_F m
    subst e
    refine (h.cl k mk).imp_right fun mh => ⟨by rw [ksR_F]; exact mh, ?_⟩
    obtain ⟨j, l, d, e, f⟩ := key k mk
    obtain ⟨j2, l2, d2, e2, f2⟩ := key _ mh
    rw [d, d2]
    cases j with
    | zero => exact absurd mk (by rw [show k = "clock" from e]; exact h.nc)
    | succ j =>
      have e : iteH hk j (hk k) = "clock" := e
      exact Nat.lt_succ_of_le (Nat.le_of_not_lt fun q => f2 j q e)
  · rw [ksR_F] at m
    obtain ⟨j, l, d, _⟩ := key s m
    rw [d]
    omega
end
end K5
set_option Elab.async false
set_option linter.all false
set_option maxRecDepth 100000
set_option maxHeartbeats 4000000
namespace K5
open PySem L2
local macro_rules | `(tactic| walk_at "rd1") => `(tactic| first
  | refine ⟨_, _, rfl, rfl, ?_⟩
  | refine ⟨_, _, _, _, rfl, rfl, SqL.of (by assumption), rfl, ?_⟩
  | refine ⟨_, _, _, _, rfl, rfl, (by assumption), rfl, ?_⟩
  | refine .inl ⟨_, rfl, ?_⟩
  | refine ⟨_, rfl, ?_⟩
  | refine ⟨(by unfold CMul; omega), ?_⟩
  | refine ⟨(by unfold CPow; omega), ?_⟩
  | refine ⟨(by (try dsimp only); omega), ?_⟩
  | refine ⟨(by unfold CDiv; omega), ?_⟩
  | fail "rd1")
local macro_rules | `(tactic| walk_at "rd") => `(tactic| repeat' (walk_at "rd1"))
open Own
section
variable {P : Program} {w : World} {K : PySem.W.Frag} {mg : Str → Option Value} {base : Heap} {A : Ad}
def spFromG : Sp := fun vs H Q _ => ∃ (nm : Str) (d : Addr) (ns : List Str) (hk : Str → Str), vs = [.str nm, .ref d] ∧ H d = some (.dK (kvF ns fun n => .str (hk n))) ∧ ns.Nodup ∧ nm ∈ ns ∧ HkOk ns hk ∧ ns.length < 64 ∧
  ∀ (p : Addr) (H' : Hp), Same H H' → H p = none → H' p = some (.lst (((rndOf hk (ns.length - 1) nm).getD []).map V.str)) → Q (.ref p) H'
theorem ok_fromG (T : Txt K mg A) : FnOk P w K mg base CX0 1 A.a_round_from A.d_round_from P_round_from spFromG := by
  refine T.f_round_from.ok sc_round_from (fun vs H Q E h => ?_) (fun cdv A' outer s H vs Q E hr h => ?_)
  · obtain ⟨nm, d, ns, hk, rfl, _⟩ := h
    rfl
  · obtain ⟨nm, d, ns, hk, rfl, hd, nd, hn, hK, nl, k⟩ := h
    refine ⟨_, (pss_cons (ps_set (i := 2) sc_round_from.nd rfl (Or.inl rfl) (pe_lst (pa_cons (pv 0) pa_nil)))
 (pss_cons (ps_set (i := 3) sc_round_from.nd rfl (Or.inl rfl) (pe_dget (hu_of hr) (pv 1) (pv 0) (fun _ _ => rfl)))
 (pss_cons (ps_while PassesOwn.never (PW.pt (pw_and (pt_cmpR op_ne (pv 3) (pe_glob (v := .str "clock") (by rfl) T.g_CLOCK.choose_spec ⟨_, rfl⟩) (nomark _)) (pw_and (pt_cmpR op_ne (pv 3) (pv 0) (nomark _)) (pw_and1 (pt_cmpR op_lt (pe_callB call_len_seq (by rfl) T.len PySem.boot_len (pa_cons (pv 2) pa_nil)) (pe_callB call_lenD (by rfl) T.len PySem.boot_len (pa_cons (pv 1) pa_nil)) (nomark _))))))
 (pss_cons (ps_expr (pe_bm PySem.F.plainAttrs_list PySem.F.slot_list_append PySem.F.type_list_append mt_append (pv 2) (pa_cons (pv 3) pa_nil)))
 (pss_one (ps_set (i := 3) sc_round_from.nd rfl (Or.inl rfl) (pe_dget (hu_of hr) (pv 1) (pv 3) (fun _ _ => rfl))))))
 (pss_one (ps_ret (pe_ifExp (pt_cmpR op_eq (pv 3) (pv 0) (nomark _)) (pv 2) (pe_lst pa_nil))))))), ?_⟩
    have vl : ∀ n ∈ ns, valV (kvF ns fun n => V.str (hk n)) (.inr n) = some (.str (hk n)) := fun n m => kvF_val (f := fun n => V.str (hk n)) nd m
    have pos : 0 < ns.length := List.length_pos_of_mem hn
    refine ⟨_, rfl, by show 1 ≤ sizeLine; decide, fun p hp => ?_⟩
    have s0 : Same H (upd H p (.lst [.str nm])) := Same.new hp
    refine ⟨_, rfl, _, rfl, d, _, rfl, .inl ⟨_, .inr nm, .inl (s0 _ _ hd), rfl, (vl nm hn).symm⟩, ?_⟩
    have npd : d ≠ p := ne_of_none hd hp
    refine while_ex (fun f σ' H' => ∃ (acc : List Str) (h : Str), σ' = [some (.str nm), some (.ref d), some (.ref p), some (.str h)] ∧ Same H H' ∧ H' p = some (.lst (acc.map V.str)) ∧ (h = "clock" ∨ h ∈ ns) ∧ acc.length + f = ns.length ∧ rnd hk nm f h acc = rnd hk nm (ns.length - 1) (hk nm) [nm])
      (fun σ' H' => ∃ (acc : List Str) (h : Str), σ' = [some (.str nm), some (.ref d), some (.ref p), some (.str h)] ∧ Same H H' ∧ H' p = some (.lst (acc.map V.str)) ∧ rnd hk nm (ns.length - 1) (hk nm) [nm] = (acc, h))
      ⟨[nm], hk nm, rfl, s0, upd_same, hK.cl _ hn, by show 1 + (ns.length - 1) = ns.length; omega, rfl⟩ (fun nx hnx => ?_) ?_
    · rintro f σ' H' ⟨acc, h, rfl, s1, hp1, hat, fl, er⟩
      have stop : h = "clock" ∨ h = nm → rnd hk nm f h acc = (acc, h) := fun z => by
        cases f with
        | zero => rfl
        | succ f => unfold rnd; rw [if_pos z]
      refine ⟨_, rfl, rfl, _, rfl, ite2 (fun c1 => ?_) (fun c1 => hnx _ _ ⟨acc, h, rfl, s1, hp1, er.symm.trans (stop (.inl (by simpa using c1)))⟩)⟩
      have hne : h ≠ "clock" := fun e => by rw [e] at c1; cases c1
      have hin := hat.resolve_left hne
      refine ⟨_, rfl, _, rfl, rfl, _, rfl, ite2 (fun c2 => ?_) (fun c2 => hnx _ _ ⟨acc, h, rfl, s1, hp1, er.symm.trans (stop (.inr (by simpa using c2)))⟩)⟩
      have hne2 : h ≠ nm := fun e => by rw [e] at c2; simp at c2
      refine ⟨_, rfl, _, _, rfl, .inl (SqL.of hp1), _, rfl, d, _, rfl, s1 _ _ hd, _, _, rfl, rfl, _, rfl, ite2 (fun c3 => ?_) (fun c3 => hnx _ _ ⟨acc, h, rfl, s1, hp1, ?_⟩)⟩
      · have hl : acc.length < ns.length := by
          have q := of_decide_eq_true c3
          rw [kvF_len, List.length_map] at q
          omega
        obtain ⟨f, rfl⟩ : ∃ f', f = f' + 1 := ⟨f - 1, by omega⟩
        have e0 : rnd hk nm (f + 1) h acc = rnd hk nm f (hk h) (acc ++ [h]) := if_neg fun z => z.elim hne hne2
        rw [e0] at er
        refine ⟨_, fun _ _ z => z, ?_⟩
        refine ⟨_, rfl, .inl ⟨rfl, _, SqL.of hp1⟩, _, rfl, _, _, _, rfl, rfl, hp1, Nat.lt_of_lt_of_le (by rw [List.length_map]; omega) (show 64 ≤ sizeLine by decide), ?_⟩
        have s2 : Same H (upd H' p (.lst (acc.map V.str ++ [.str h]))) := fun b u e => by rw [upd_ne (ne_of_none e hp)]; exact s1 _ _ e
        refine ⟨_, rfl, _, rfl, d, _, rfl, .inl ⟨_, .inr h, .inl (s2 _ _ hd), rfl, (vl h hin).symm⟩, ?_⟩
        exact ⟨f, Nat.lt_succ_self _, acc ++ [h], hk h, rfl, s2, by rw [upd_same, List.map_append]; rfl, hK.cl _ hin, by rw [List.length_append, List.length_singleton]; omega, er⟩
      · have f0 : f = 0 := by
          have q := of_decide_eq_false (eq_false_of_ne_true c3)
          rw [kvF_len, List.length_map] at q
          omega
        subst f0
        exact er.symm
    · rintro σ' H' ⟨acc, h, rfl, s1, hp1, er⟩
      have eo : rndOf hk (ns.length - 1) nm = if h = nm then some acc else none := by
        unfold rndOf
        rw [er]
      rw [eo] at k
      refine ⟨_, rfl, _, rfl, rfl, _, rfl, ite2 (fun q => ?_) (fun q => ⟨Nat.zero_le _, fun q2 hq => ?_⟩)⟩
      · rw [if_pos (V.str.inj (of_decide_eq_true q))] at k
        exact ⟨_, rfl, k p _ s1 hp hp1⟩
      · rw [if_neg fun e => q (by rw [e]; exact decide_eq_true rfl)] at k
        exact k q2 _ (s1.trans (Same.new hq)) (s1.free hq) upd_same
/-- an exception is made, and what its field is stands in each later heap -/
theorem exc_finP {H : Hp} {C a : Addr} {f : Str} {y : V} {Hc : Hp} {dd : Addr} {E : XK} {Pr : Hp → Prop} (na : H a = none) (s1 : Same (upd H a (exo a C none)) Hc) (h1 : Hc dd = none) (h2 : dd ≠ a) (hs : ∀ H', (∀ b u, Hc b = some u → b ≠ a → H' b = some u) → Pr H')
    (k : ∀ dd H', Same H H' → H' dd = some (.xd [(f, y)]) → Pr H' → E (.ref C) (some dd) H') : ∀ H2 : Hp, H2 = upd (upd Hc dd (exd dd [(f, y)])) a (exo a C (some dd)) →
    H2 a = some (exo a C (some dd)) ∧ H2 dd = some (exd dd [(f, y)]) ∧ H dd = none ∧ E (.ref C) (some dd) (upd (del H2 a) dd (.xd [(f, y)])) := by
  rintro H2 rfl
  have sH : Same H Hc := (Same.new na).trans s1
  have old : ∀ b u, Hc b = some u → b ≠ a → upd (del (upd (upd Hc dd (exd dd [(f, y)])) a (exo a C (some dd))) a) dd (.xd [(f, y)]) b = some u := fun b u e ne => by
    have n2 : b ≠ dd := fun z => by rw [z, h1] at e; cases e
    rw [upd_ne n2, del_ne ne, upd_ne ne, upd_ne n2]
    exact e
  exact ⟨upd_same, by rw [upd_ne h2, upd_same], sH.free h1, k dd _ (fun b u e => old b u (sH _ _ e) fun z => by rw [z, na] at e; cases e) upd_same (hs _ old)⟩
def spRoI (K : PySem.W.Frag) (n : Nat) (C : Addr) : Sp := fun vs H Q _ => ∃ (a : Addr) (x : V) (G : Hp) (d : PyData), vs = [.ref a, x] ∧ H a = some (exo a C none) ∧ G a = none ∧ Same G H ∧ Dp K G x d ∧ d.depth < n ∧ wid d = true ∧
  ∀ y Hc dx, Same H Hc → Hc dx = none → dx ≠ a → (∀ H', (∀ b u, Hc b = some u → b ≠ a → H' b = some u) → Dp K H' y d) → Q .non (upd (upd Hc dx (exd dx [("names", y)])) a (exo a C (some dx)))
theorem ok_roi (T : Txt K mg A) (n : Nat) : FnOk P w K mg base CX0 (n + 1) A.a_Round___init__ A.d_Round___init__ P_Round___init__ (spRoI K n A.a_Round) := by
  have G_copied : FnOk P w K mg base CX0 n A.a_copied A.d_copied P_copied (spCopy K n) := ok_copied T n
  refine T.f_Round___init__.ok sc_Round___init__ (fun vs H Q E h => ?_) (fun cdv A' outer s H vs Q E hr h => ?_)
  · obtain ⟨a, x, G, d, rfl, _⟩ := h
    rfl
  · obtain ⟨a, x, G, d, rfl, ha, ga, sG, hx, hd, hw, k⟩ := h
    refine ⟨_, (pss_one (ps_ost (pv 0) (pe_call G_copied (hr.mono (by omega)) (by rfl) T.g_copied T.f_copied.kp T.b_copied .nil pass0 (pa_cons (pv 1) pa_nil)))), ?_⟩
    refine ⟨_, rfl, x, rfl, .inl ⟨d, G, sG, hx, hd, hw, fun y G' Hc s1 mo sG' hy => ⟨_, rfl, a, A.a_Round, rfl, T.xRo, T.nRo, .inl ⟨s1 _ _ ha, fun dx h1 h2 => k y Hc dx s1 h1 h2 fun H' hh => ?_⟩⟩⟩⟩
    refine dpSame (fun b u e => hh b u (sG' _ _ e) fun z => ?_) hy
    subst z
    rcases mo.new b (by rw [e]; exact fun z => nomatch z) with z | z
    · exact z ga
    · rw [ha] at z; cases z
/-- who is told of a round -/
def RaL (K : PySem.W.Frag) (C : Addr) (l : List Str) (H : Hp) (E : XK) : Prop := ∀ p dd H', Same H H' → H' dd = some (.xd [("names", .ref p)]) → SqL K H' p (l.map V.str) → E (.ref C) (some dd) H'
theorem dp_strs_inv {H : Hp} : ∀ {l : List Str} {xs : List V}, DpAll K H xs (l.map PyData.str) → xs = l.map V.str
  | [], _, h => by cases h; rfl
  | s :: l, _, h => by
    cases h with
    | cons a b =>
      cases a
      rw [dp_strs_inv b]; rfl
theorem strs_dp {H : Hp} : ∀ l : List Str, DpAll K H (l.map V.str) (l.map PyData.str)
  | [] => .nil
  | s :: l => .cons (.str s) (strs_dp l)
theorem dp_lst_inv {H : Hp} {y : V} {l : List Str} (h : Dp K H y (.list (l.map PyData.str))) : ∃ p, y = .ref p ∧ SqL K H p (l.map V.str) := by
  cases h with
  | @lst b ys _ q hB =>
    rw [dp_strs_inv hB] at q
    exact ⟨b, rfl, q⟩
def spRoundsX (K : PySem.W.Frag) (C : Addr) : Sp := fun vs H _ E => ∃ (dd : Addr) (ns ys : List Str) (hk : Str → Str) (k : Nat) (z : Str) (l : List Str), vs = [.ref dd] ∧ H dd = some (.dK (kvF ns fun n => .str (hk n))) ∧ ns.Nodup ∧ HkOk ns hk ∧ ns.length < 64 ∧ ys.Perm ns ∧ ys.Pairwise sle ∧ ys[k]? = some z ∧
  (∀ i q, i < k → ys[i]? = some q → rndOf hk ns.length q = none) ∧ rndOf hk ns.length z = some l ∧ l.length ≤ 64 ∧ RaL K C l H E
theorem ok_roundsX (T : Txt K mg A) : FnOk P w K mg base (L2.CX P w) 5 A.a_check_rounds A.d_check_rounds P_check_rounds (spRoundsX K A.a_Round) := by
  have G_round_from : FnOk P w K mg base CX0 1 A.a_round_from A.d_round_from P_round_from spFromG := ok_fromG T
  have G_Round___init__ : FnOk P w K mg base CX0 3 A.a_Round___init__ A.d_Round___init__ P_Round___init__ (spRoI K 2 A.a_Round) := ok_roi T 2
  refine T.f_check_rounds.okX sc_check_rounds (fun vs H Q E h => ?_) (fun cdv A' outer s H vs Q E hr h => ?_)
  · obtain ⟨dd, ns, ys, hk, k, z, l, rfl, _⟩ := h
    rfl
  · obtain ⟨dd, ns, ys, hk, k, z, l, rfl, hd, nd, hK, nl, py, asc, hz, none_, some_, ll, ra⟩ := h
    refine ⟨_, (pss_one (ps_for (passes_of rfl) rfl (pi_list (pe_callB (call_sortedD rfl) (by rfl) T.sorted (by decide +kernel) (pa_cons (pv 0) pa_nil))) (pg_name (i := 1) sc_check_rounds.nd rfl (Or.inl rfl))
 (pss_cons (ps_set (i := 2) sc_check_rounds.nd rfl (Or.inl rfl) (pe_call G_round_from (hr.mono (by omega)) (by rfl) T.g_round_from T.f_round_from.kp T.b_round_from .nil pass0 (pa_cons (pv 1) (pa_cons (pv 0) pa_nil))))
 (pss_one (ps_if (pt_truth (pv 2) (by intro _; rfl))
 (pss_one (ps_raise rfl (takes_of rfl rfl rfl rfl) (pmk_oex T.xRo T.iRo T.tRo G_Round___init__ (hr.mono (by omega)) T.b_Round___init__ .nil pass0 (by rfl) T.g_Round (pa_cons (pv 2) pa_nil))))
 pss_nil))))), ?_⟩
    refine ⟨_, rfl, dd, _, ns, rfl, .inl hd, kvF_keys _ _, nl, fun ys2 q hperm hs hq => ?_⟩
    obtain rfl : ys2 = ys := asc_eq (hperm.trans py.symm) hs asc
    have kl : k < ys2.length := (List.getElem?_eq_some_iff.mp hz).1
    have hql := upd_same (H := H) (a := q) (o := .lst (ys2.map V.str))
    refine ⟨q, rfl, ⟨_, SqL.of hql⟩, for_it walk_list (fun i σ' H' => i ≤ k ∧ ∃ x y, σ' = [some (.ref dd), x, y] ∧ Same (upd H q (.lst (ys2.map V.str))) H') ⟨Nat.zero_le _, _, _, rfl, Same.refl _⟩ (fun i σ' H' _ z => SqL.of (z.2.choose_spec.choose_spec.2 _ _ hql)) ?_ (fun σ' H' z => ?_)⟩
    · rintro i v σ' H' H'' hi ⟨ik, x, y, rfl, s1⟩ ⟨rfl, hx⟩
      obtain ⟨hi, rfl⟩ := str_at hx
      have S1 : Same H H'' := (Same.new hq).trans s1
      have mi := hperm.mem_iff.mp (List.getElem_mem hi)
      refine ⟨_, rfl, _, rfl, ys2[i], dd, ns, hk, rfl, S1 _ _ hd, nd, mi, hK, nl, fun p H3 s3 hp hp3 => ?_⟩
      rw [← rnd_more hK mi] at hp3
      by_cases c : i < k
      · rw [none_ i _ c (List.getElem?_eq_getElem hi)] at hp3
        refine ⟨_, rfl, false, .inl ⟨_, SqL.of hp3, rfl⟩, iteF ?_⟩
        exact ⟨c, _, _, rfl, s1.trans s3⟩
      · have e : i = k := by omega
        subst e
        rw [List.getElem?_eq_getElem hi] at hz
        cases hz
        rw [some_] at hp3
        have pos : l.map V.str ≠ [] := fun e0 => by
          unfold rndOf at some_
          obtain ⟨j, _, a2, _⟩ := rnd_at hk ys2[i] ns.length (hk ys2[i]) [ys2[i]]
          rw [a2] at some_
          dsimp only at some_
          split at some_
          · have := Option.some.inj some_
            rw [← this] at e0
            simp at e0
          · cases some_
        refine ⟨_, rfl, true, .inl ⟨_, SqL.of hp3, ?_⟩, iteT ?_⟩
        · cases el : l.map V.str with
          | nil => exact absurd el pos
          | cons a r => simp [el]
        · have S3 := S1.trans s3
          refine ⟨_, rfl, by show 1 ≤ 1000; decide, fun a na => ⟨a, _, H3, .list (l.map PyData.str), rfl, upd_same, na, Same.new na, .lst (SqL.of hp3) (strs_dp l), ?_, ?_, fun y Hc dd2 s5 h1 h2 h3 => ⟨rfl, dd2, _, exc_finP (Pr := fun H' => Dp K H' y (.list (l.map PyData.str))) na s5 h1 h2 h3 (fun dd3 H9 s9 hdd hy => ?_) _ rfl⟩⟩⟩
          · simp only [PyData.depth, depth_strs]; omega
          · simp only [wid, wid_strs, List.length_map, Bool.and_true]
            exact decide_eq_true (by omega)
          · obtain ⟨p2, rfl, q2⟩ := dp_lst_inv hy
            exact ra p2 dd3 H9 (S3.trans s9) hdd q2
    · have := z.1
      rw [List.length_map] at this
      omega
end
end K5
set_option Elab.async false
set_option linter.all false
set_option maxRecDepth 100000
set_option maxHeartbeats 4000000
namespace K5
open PySem L2
local macro_rules | `(tactic| walk_at "rd1") => `(tactic| first
  | refine ⟨_, _, rfl, rfl, ?_⟩
  | refine ⟨_, _, _, _, rfl, rfl, SqL.of (by assumption), rfl, ?_⟩
  | refine ⟨_, _, _, _, rfl, rfl, (by assumption), rfl, ?_⟩
  | refine .inl ⟨_, rfl, ?_⟩
  | refine ⟨_, rfl, ?_⟩
  | refine ⟨(by unfold CMul; omega), ?_⟩
  | refine ⟨(by unfold CPow; omega), ?_⟩
  | refine ⟨(by (try dsimp only); omega), ?_⟩
  | refine ⟨(by unfold CDiv; omega), ?_⟩
  | fail "rd1")
local macro_rules | `(tactic| walk_at "rd") => `(tactic| repeat' (walk_at "rd1"))
open Own
section
variable {P : Program} {w : World} {K : PySem.W.Frag} {mg : Str → Option Value} {base : Heap} {A : Ad}
def waitB : PyData → Bool
  | .int i => decide (0 ≤ i)
  | _ => false
def spIsWaitD (K : PySem.W.Frag) : Sp := fun vs H Q _ => ∃ (x : V) (d : PyData), vs = [x] ∧ Dp K H x d ∧ Q (.bl (waitB d)) H
theorem ok_iswaitD (T : Txt K mg A) : FnOk P w K mg base CX0 2 A.a_is_wait A.d_is_wait P_is_wait (spIsWaitD K) := by
  have G_is_integer : FnOk P w K mg base CX0 1 A.a_is_integer A.d_is_integer P_is_integer (spIsInt K) := ok_isint T
  refine T.f_is_wait.ok sc_is_wait (fun vs H Q E h => ?_) (fun cdv A' outer s H vs Q E hr h => ?_)
  · obtain ⟨x, d, rfl, _⟩ := h
    rfl
  · obtain ⟨x, d, rfl, hx, k⟩ := h
    refine ⟨_, (pss_one (ps_ret (pe_and (pe_call G_is_integer (hr.mono (by omega)) (by rfl) T.g_is_integer T.f_is_integer.kp T.b_is_integer .nil pass0 (pa_cons (pv 0) pa_nil)) (pe_one (pe_cmpR op_ge (pv 0) pe_int (nomark _)))))), ?_⟩
    refine ⟨_, rfl, x, d, rfl, hx, _, rfl, ?_⟩
    cases hx with
    | int i => exact iteT ⟨_, rfl, _, _, rfl, rfl, k⟩
    | non => exact iteF k
    | bl b => exact iteF k
    | str z => exact iteF k
    | lst _ _ => exact iteF k
    | tup _ _ => exact iteF k
/-- no list -/
def NoL (H : Hp) (x : V) : Prop := x = .non ∨ (∃ b, x = .bl b) ∨ (∃ i, x = .int i) ∨ (∃ s, x = .str s) ∨ ∃ a, x = .ref a ∧ H a = some (.dK [])
theorem NoL.ty {H : Hp} {x : V} (h : NoL H x) : ∃ t, TyX K H x (.type t) ∧ kitB t "list" = some false ∧ kitB t "tuple" = some false := by
  rcases h with rfl | ⟨b, rfl⟩ | ⟨i, rfl⟩ | ⟨s, rfl⟩ | ⟨a, rfl, e⟩
  · exact ⟨"NoneType", .base .non, by decide +kernel, by decide +kernel⟩
  · exact ⟨"bool", .base (.bl b), by decide +kernel, by decide +kernel⟩
  · exact ⟨"int", .base (.int i), by decide +kernel, by decide +kernel⟩
  · exact ⟨"str", .base (.str s), by decide +kernel, by decide +kernel⟩
  · exact ⟨"dict", .base (.dK e), by decide +kernel, by decide +kernel⟩
/-- what is asked whether it is an entry -/
def EntV (K : PySem.W.Frag) (H : Hp) (x : V) (ks : List MK) (b : Bool) : Prop := (NoL H x ∧ b = false) ∨ (∃ a xs, x = .ref a ∧ SqX K H a xs ∧ xs.length ≠ 2 ∧ b = false) ∨
  ∃ (a : Addr) (u v : V) (du dv : PyData), x = .ref a ∧ SqX K H a [u, v] ∧ Dp K H u du ∧ Dp K H v dv ∧ AskK du ks ∧ b = (hookB du ks && waitB dv)
theorem EntV.kept {H H' : Hp} {x : V} {ks : List MK} {b : Bool} (h : EntV K H x ks b) (s : SeqKept H H') (k : ∀ a, H a = some (.dK []) → H' a = some (.dK [])) : EntV K H' x ks b := by
  rcases h with ⟨n, e⟩ | ⟨a, xs, e, q, n⟩ | ⟨a, u, v, du, dv, e, q, hu, hv, n⟩
  · exact .inl ⟨n.imp_right fun n => n.imp_right fun n => n.imp_right fun n => n.imp_right fun ⟨a, e, z⟩ => ⟨a, e, k _ z⟩, e⟩
  · exact .inr (.inl ⟨a, xs, e, q.imp (sql_kept s) (sqt_kept s), n⟩)
  · exact .inr (.inr ⟨a, u, v, du, dv, e, q.imp (sql_kept s) (sqt_kept s), dp_kept s _ _ hu, dp_kept s _ _ hv, n⟩)
theorem EntV.up {H H' : Hp} {x : V} {ks : List MK} {b : Bool} (h : EntV K H x ks b) (s : Same H H') : EntV K H' x ks b := h.kept (same_kept s) fun a e => s _ _ e
def spEntryM (P : Program) (w : World) (K : PySem.W.Frag) : Sp := fun vs H Q _ => ∃ (x : V) (d : Addr) (b : Bool) (od : Obj) (xs : List (MK × V × V)), vs = [x, .ref d] ∧ EntV K H x (xs.map (·.1)) b ∧ H d = some (.frz od (MxO P w d xs)) ∧ (∀ z ∈ xs, KeyAt H z) ∧ ∀ H', Same H H' → Q (.bl b) H'
theorem ok_entryM (T : Txt K mg A) : FnOk P w K mg base CX0 3 A.a_is_entry A.d_is_entry P_is_entry (spEntryM P w K) := by
  have G_is_list : FnOk P w K mg base CX0 1 A.a_is_list A.d_is_list P_is_list (spIsListX K) := ok_islistX T
  have G_is_hook : FnOk P w K mg base CX0 2 A.a_is_hook A.d_is_hook P_is_hook (spHookM P w K) := ok_hookM T
  have G_is_wait : FnOk P w K mg base CX0 2 A.a_is_wait A.d_is_wait P_is_wait (spIsWaitD K) := ok_iswaitD T
  refine T.f_is_entry.ok sc_is_entry (fun vs H Q E h => ?_) (fun cdv A' outer s H vs Q E hr h => ?_)
  · obtain ⟨x, d, b, od, xs, rfl, _⟩ := h
    rfl
  · obtain ⟨x, d, b, od, xs, rfl, ent, hd, hk, k⟩ := h
    refine ⟨_, (pss_cons (ps_if (PW.pt (pw_or (pt_not (pt_val (pe_call G_is_list (hr.mono (by omega)) (by rfl) T.g_is_list T.f_is_list.kp T.b_is_list .nil pass0 (pa_cons (pv 0) pa_nil)))) (pw_or1 (pt_cmpR op_ne (pe_callB call_len_seq (by rfl) T.len PySem.boot_len (pa_cons (pv 0) pa_nil)) pe_int (nomark _)))))
 (pss_one (ps_ret pe_bl))
 pss_nil)
 (pss_cons (ps_asg (pv 0) (Own.pg_lt (by rfl) (pgs_cons (pg_name (i := 2) sc_is_entry.nd rfl (Or.inl rfl)) (pgs_cons (pg_name (i := 3) sc_is_entry.nd rfl (Or.inl rfl)) pgs_nil))))
 (pss_one (ps_ret (pe_and (pe_call G_is_hook (hr.mono (by omega)) (by rfl) T.g_is_hook T.f_is_hook.kp T.b_is_hook .nil pass0 (pa_cons (pv 2) (pa_cons (pv 1) pa_nil))) (pe_one (pe_call G_is_wait (hr.mono (by omega)) (by rfl) T.g_is_wait T.f_is_wait.kp T.b_is_wait .nil pass0 (pa_cons (pv 3) pa_nil)))))))), ?_⟩
    rcases ent with ⟨n, rfl⟩ | ⟨a, ys, rfl, q, n, rfl⟩ | ⟨a, u, v, du, dv, rfl, q, hu, hv, ask, rfl⟩
    · obtain ⟨t, ht, h1, h2⟩ := n.ty (K := K)
      exact ⟨_, rfl, _, rfl, .inr ⟨t, ht, h1, h2, fun H1 s1 => ⟨_, rfl, iteT (k _ s1)⟩⟩⟩
    · refine ⟨_, rfl, _, rfl, .inl ⟨a, _, rfl, q, fun H1 s1 => ⟨_, rfl, iteF ?_⟩⟩⟩
      exact ⟨_, rfl, a, _, rfl, sxUp q s1, rfl, _, rfl, ite2 (fun _ => k _ s1) (fun c => absurd (by simpa using fun e : (ys.length : Int) = 2 => n (by omega)) c)⟩
    · refine ⟨_, rfl, _, rfl, .inl ⟨a, _, rfl, q, fun H1 s1 => ⟨_, rfl, iteF ?_⟩⟩⟩
      refine ⟨_, rfl, a, _, rfl, sxUp q s1, rfl, _, rfl, iteF ?_⟩
      refine ⟨_, rfl, un2 (sxUp q s1) ?_⟩
      refine ⟨_, rfl, _, rfl, u, d, du, od, xs, rfl, dpSame s1 hu, ask, s1 _ _ hd, fun z m => (hk z m).up fun a ys e => s1 _ _ e, fun H2 s2 => ⟨_, rfl, ?_⟩⟩
      have s3 := s1.trans s2
      cases ch : hookB du (xs.map (·.1)) with
      | false =>
        rw [ch] at k
        exact iteF (k _ s3)
      | true =>
        rw [ch, Bool.true_and] at k
        exact iteT ⟨_, rfl, v, dv, rfl, dpSame s3 hv, k _ s3⟩
/-- keys of any sort -/
structure OdK (H : Hp) (xs : List (MK × V × V)) : Prop where
  key : ∀ z ∈ xs, KeyAt H z
  nd : (xs.map (·.1)).Nodup
  kw : ∀ z ∈ xs, (kdM z.1).depth < 2 ∧ wid (kdM z.1) = true ∧ SeqAt.shaped (kdM z.1) = true ∧ ∀ s, z.1 = .inl s → s.length ≤ 1000
  len : xs.length ≤ 100
theorem OdK.kept {H H' : Hp} {xs : List (MK × V × V)} (h : OdK H xs) (s : SeqKept H H') : OdK H' xs := ⟨fun z m => keyAt_kept s (h.key z m), h.nd, h.kw, h.len⟩
theorem OdR.k {H : Hp} {xs : List (MK × V × V)} {dv : MK → PyData} (h : OdR K H xs dv) : OdK H xs := ⟨h.key, h.nd, h.kw, h.len⟩
def spChkEM (P : Program) (w : World) (K : PySem.W.Frag) (C : Addr) : Sp := fun vs H _ E => ∃ (d : Addr) (xs : List (MK × V × V)) (eb : MK → Bool) (k : Nat) (z : MK × V × V), vs = [.ref d] ∧ H d = some (MxO P w d xs) ∧ OdK H xs ∧ (∀ q ∈ xs, EntV K H q.2.2 (xs.map (·.1)) (eb q.1)) ∧
  (∀ i q, i < k → xs[i]? = some q → (nmK q.1 && eb q.1) = true) ∧ xs[k]? = some z ∧ (nmK z.1 && eb z.1) = false ∧ RaK K C z.2.1 H E
theorem ok_chkeM (T : Txt K mg A) : FnOk P w K mg base (L2.CX P w) 5 A.a_check_entries A.d_check_entries P_check_entries (spChkEM P w K A.a_BadRow) := by
  have G_is_name : FnOk P w K mg base CX0 1 A.a_is_name A.d_is_name P_is_name (spIsNameA K) := ok_isnameA T
  have G_is_entry : FnOk P w K mg base CX0 3 A.a_is_entry A.d_is_entry P_is_entry (spEntryM P w K) := ok_entryM T
  have G_BadRow___init__ : FnOk P w K mg base CX0 3 A.a_BadRow___init__ A.d_BadRow___init__ P_BadRow___init__ (spNDI K 2 A.a_BadRow) := ok_bri T 2
  refine T.f_check_entries.okX sc_check_entries (fun vs H Q E h => ?_) (fun cdv A' outer s H vs Q E hr h => ?_)
  · obtain ⟨d, xs, eb, k, z, rfl, _⟩ := h
    rfl
  · obtain ⟨d, xs, eb, k, z, rfl, hd, O, ents, good, hz, bad, ra⟩ := h
    refine ⟨_, (pss_one (ps_lock (ps_for (passes_of rfl) rfl (Own.pi_mx (P := P) (w := w) rfl rfl (pv 0)) (pg_name (i := 1) sc_check_entries.nd rfl (Or.inl rfl))
 (pss_one (ps_if (PW.pt (pw_or (pt_not (pt_val (pe_call G_is_name (hr.mono (by omega)) (by rfl) T.g_is_name T.f_is_name.kp T.b_is_name .nil pass0 (pa_cons (pv 1) pa_nil)))) (pw_or1 (pt_not (pt_val (pe_call G_is_entry (hr.mono (by omega)) (by rfl) T.g_is_entry T.f_is_entry.kp T.b_is_entry .nil pass0 (pa_cons (Own.pe_rget (P := P) (w := w) (K := K) rfl rfl rfl (hu_of hr) (pv 0) (pv 1) (fun _ _ => rfl)) (pa_cons (pv 0) pa_nil))))))))
 (pss_one (ps_raise rfl (Own.takes_unlock (takes_of rfl rfl rfl rfl)) (pmk_oex T.xBr T.iBr T.tBr G_BadRow___init__ (hr.mono (by omega)) T.b_BadRow___init__ .nil pass0 (by rfl) T.g_BadRow (pa_cons (pv 1) pa_nil))))
 pss_nil))))), ?_⟩
    refine ⟨d, _, hd, trivial, fun od => ?_⟩
    have hF := upd_same (H := H) (a := d) (o := .frz od (MxO P w d xs))
    have kpt := kept_upd (o := .frz od (MxO P w d xs)) hd rfl
    have OF := O.kept kpt
    have EF : ∀ q ∈ xs, EntV K (upd H d (.frz od (MxO P w d xs))) q.2.2 (xs.map (·.1)) (eb q.1) := fun q m => (ents q m).kept kpt fun a e => by rw [upd_ne (fun w => by rw [w, hd] at e; cases e)]; exact e
    have kl : k < xs.length := (List.getElem?_eq_some_iff.mp hz).1
    refine ⟨_, rfl, d, od, xs, rfl, hF, for_it walk_mx (fun i σ' H' => i ≤ k ∧ ∃ y, σ' = [some (.ref d), y] ∧ Same (upd H d (.frz od (MxO P w d xs))) H') ⟨Nat.zero_le _, _, rfl, Same.refl _⟩ (fun i σ' H' _ ⟨_, _, _, e⟩ => e _ _ hF) ?_ (fun σ' H' z => absurd (show xs.length ≤ k from z.1) (by omega))⟩
    rintro i x σ' H' H'' hi ⟨ik, y, rfl, s1⟩ ⟨rfl, q, hq, rfl⟩
    have mq := List.mem_of_getElem? hq
    have O1 := OF.kept (same_kept s1)
    have raise : ∀ H3, Same H'' H3 → i = k → tMkO A.a_BadRow (spNDI K 2 A.a_BadRow) [] (tCons (tVar 1) tNil) [some (.ref d), some q.2.1] H3 (fun cls d' H' => ∃ p od u, H' p = some (.frz od u) ∧ (∀ (o' : Obj) (u' : HO), H p ≠ some (.frz o' u')) ∧ E cls d' (upd H' p u)) := fun H3 s3 e => by
      subst e
      rw [hz] at hq
      cases hq
      have kw := O1.kw z mq
      refine ⟨_, rfl, by show 1 ≤ 1000; decide, fun a na => ⟨a, _, H3, rfl, upd_same, na, exc_pre na (Same.refl _) (.inl ⟨kdM z.1, dpSame s3 (keyL_dp (keyAt_L (O1.key z mq))), kw.1, kw.2.1⟩), fun y Hc dd s5 h1 h2 h3 => ⟨rfl, dd, _, exc_fin (E := fun cls d' H' => ∃ p od u, H' p = some (.frz od u) ∧ (∀ (o' : Obj) (u' : HO), H p ≠ some (.frz o' u')) ∧ E cls d' (upd H' p u)) na s5 h1 h2 h3 (fun y dd H9 s9 hdd sd => ?_) _ rfl⟩⟩⟩
      have S := (s1.trans s3).trans s9
      have h9 := S _ _ hF
      refine ⟨d, od, _, h9, (fun o' u' w => by rw [hd] at w; cases w), ra y dd _ (unfrz hd S) ?_ (sd_kept (kept_upd h9 rfl) (fun a e => by rw [upd_ne (fun w => by rw [w, h9] at e; cases e)]; exact e) sd)⟩
      rw [upd_ne fun w => by rw [w, h9] at hdd; cases hdd]
      exact hdd
    have ek : (nmK q.1 && eb q.1) = false → i = k := fun h => by
      rcases Nat.lt_or_ge i k with c | c
      · rw [good i q c hq] at h; cases h
      · omega
    have lt : (nmK q.1 && eb q.1) = true → i + 1 ≤ k := fun h => by
      rcases Nat.lt_or_ge i k with c | c
      · exact c
      · have e : i = k := by omega
        subst e
        rw [hz] at hq
        cases hq
        rw [bad] at h
        cases h
    refine ⟨_, rfl, tn_nil ?_⟩
    dsimp only [List.append_nil]
    refine key_name (O1.key q mq) (O1.kw q mq).2.2.2 fun H2 s2 => ⟨_, rfl, ?_⟩
    cases cn : nmK q.1 with
    | false => exact iteT (raise _ s2 (ek (by rw [cn]; rfl)))
    | true =>
      refine iteF ?_
      have O2 := O1.kept (same_kept s2)
      have hF2 := (s1.trans s2) _ _ hF
      refine ⟨_, rfl, _, rfl, d, _, q.1, _, rfl, ⟨xs, .inr ⟨od, hF2⟩, O2.key, rfl⟩, keyAt_L (O2.key q mq), val_of O.nd hq, _, rfl, q.2.2, d, eb q.1, od, xs, rfl, (EF q mq).up (s1.trans s2), hF2, O2.key, fun H3 s3 => ⟨_, rfl, ?_⟩⟩
      cases ch : eb q.1 with
      | false => exact iteT (raise _ (s2.trans s3) (ek (by rw [cn, ch]; rfl)))
      | true => exact iteF ⟨lt (by rw [cn, ch]; rfl), _, rfl, (s1.trans s2).trans s3⟩
end
end K5
set_option Elab.async false
set_option linter.all false
set_option maxRecDepth 100000
set_option maxHeartbeats 4000000
namespace K5
open PySem L2
local macro_rules | `(tactic| walk_at "rd1") => `(tactic| first
  | refine ⟨_, _, rfl, rfl, ?_⟩
  | refine ⟨_, _, _, _, rfl, rfl, SqL.of (by assumption), rfl, ?_⟩
  | refine ⟨_, _, _, _, rfl, rfl, (by assumption), rfl, ?_⟩
  | refine .inl ⟨_, rfl, ?_⟩
  | refine ⟨_, rfl, ?_⟩
  | refine ⟨(by unfold CMul; omega), ?_⟩
  | refine ⟨(by unfold CPow; omega), ?_⟩
  | refine ⟨(by (try dsimp only); omega), ?_⟩
  | refine ⟨(by unfold CDiv; omega), ?_⟩
  | fail "rd1")
local macro_rules | `(tactic| walk_at "rd") => `(tactic| repeat' (walk_at "rd1"))
open Own
section
variable {P : Program} {w : World} {K : PySem.W.Frag} {mg : Str → Option Value} {base : Heap} {A : Ad}
def spChkRG : Sp := fun vs H Q _ => ∃ (dd : Addr) (ns : List Str) (hk : Str → Str), vs = [.ref dd] ∧ H dd = some (.dK (kvF ns fun n => .str (hk n))) ∧ ns.Nodup ∧ (∀ n ∈ ns, Nm n) ∧ HkOk ns hk ∧ ns.length < 64 ∧ ∀ H', Same H H' → Q .non H'
theorem ok_chkrG (T : Txt K mg A) : FnOk P w K mg base CX0 3 A.a_check_rows A.d_check_rows P_check_rows spChkRG := by
  have G_is_name : FnOk P w K mg base CX0 1 A.a_is_name A.d_is_name P_is_name spIsName := ok_isname T
  have G_is_hook : FnOk P w K mg base CX0 2 A.a_is_hook A.d_is_hook P_is_hook spHook := ok_hook T
  refine T.f_check_rows.ok sc_check_rows (fun vs H Q E h => ?_) (fun cdv A' outer s H vs Q E hr h => ?_)
  · obtain ⟨dd, ns, hk, rfl, _⟩ := h
    rfl
  · obtain ⟨dd, ns, hk, rfl, hd, nd, nm, hK, nl, k⟩ := h
    refine ⟨_, (pss_one (ps_lock (ps_for PassesOwn.never rfl (pi_keys (pv 0)) (pg_name (i := 1) sc_check_rows.nd rfl (Or.inl rfl))
 (pss_one (ps_if (PW.pt (pw_or (pt_not (pt_val (pe_call G_is_name (hr.mono (by omega)) (by rfl) T.g_is_name T.f_is_name.kp T.b_is_name .nil pass0 (pa_cons (pv 1) pa_nil)))) (pw_or1 (pt_not (pt_val (pe_call G_is_hook (hr.mono (by omega)) (by rfl) T.g_is_hook T.f_is_hook.kp T.b_is_hook .nil pass0 (pa_cons (pe_dget (hu_of hr) (pv 0) (pv 1) (fun _ _ => rfl)) (pa_cons (pv 0) pa_nil))))))))
 (pss_one ps_never)
 pss_nil))))), ?_⟩
    refine ⟨dd, _, hd, trivial, fun od => ?_⟩
    refine ⟨_, rfl, dd, od, rfl, .inl ⟨_, upd_same, for_it walk_keys (fun i σ' H' => ∃ x, σ' = [some (.ref dd), x] ∧ Same (upd H dd (.frz od (.dK (kvF ns fun n => .str (hk n))))) H') ⟨none, rfl, Same.refl _⟩ (fun i σ' H' _ ⟨_, _, s⟩ => s _ _ upd_same) ?_ ?_⟩⟩
    · rintro i x σ' H' H'' hi ⟨y, rfl, s1⟩ ⟨rfl, key, v, hkv, rfl⟩
      obtain ⟨hi1, rfl, rfl⟩ := kvF_at hkv
      have hm := List.getElem_mem hi1
      refine ⟨_, rfl, _, rfl, nm _ hm, fun H2 s2 => ⟨_, rfl, iteF ?_⟩⟩
      have hd2 := s2 _ _ (s1 _ _ (upd_same (H := H) (a := dd) (o := .frz od (.dK (kvF ns fun n => .str (hk n))))))
      refine ⟨_, rfl, _, rfl, dd, .str (hk ns[i]), rfl, .inl ⟨_, .inr ns[i], .inr ⟨od, hd2⟩, rfl, (kvF_val (f := fun n => V.str (hk n)) nd hm).symm⟩, _, rfl, hk ns[i], dd, od, _, ns, rfl, hd2, kvF_keys _ _, nl, hK.cl _ hm, fun H3 s3 => ⟨_, rfl, iteF ?_⟩⟩
      exact ⟨_, rfl, (s1.trans s2).trans s3⟩
    · rintro σ' H' ⟨x, rfl, s1⟩
      exact ⟨s1 _ _ upd_same, k _ (unfrz hd s1)⟩
/-- rows that hang round and round -/
structure RdOk (ns ys : List Str) (hk : Str → Str) (k : Nat) (z : Str) (l : List Str) : Prop where
  nd : ns.Nodup
  ho : HkOk ns hk
  nl : ns.length < 64
  py : ys.Perm ns
  asc : ys.Pairwise sle
  at_ : ys[k]? = some z
  no : ∀ i q, i < k → ys[i]? = some q → rndOf hk ns.length q = none
  so : rndOf hk ns.length z = some l
  ll : l.length ≤ 64
def spHInitX (P : Program) (w : World) (K : PySem.W.Frag) (CB CR : Addr) : Sp := fun vs H Q E => ∃ (p dd : Addr), vs = [.ref p, .ref dd] ∧ (spChkRM P w K CB [.ref dd] H Q E ∨
  ∃ (ns ys : List Str) (hk : Str → Str) (k : Nat) (z : Str) (l : List Str), H dd = some (.dK (kvF ns fun n => .str (hk n))) ∧ (∀ n ∈ ns, Nm n) ∧ RdOk ns ys hk k z l ∧ RaL K CR l H E)
theorem ok_hinitX (T : Txt K mg A) : FnOk P w K mg base (L2.CX P w) 6 A.a_Hanging___init__ A.d_Hanging___init__ P_Hanging___init__ (spHInitX P w K A.a_BadRow A.a_Round) := by
  have G_check_rows : FnOk P w K mg base (L2.CX P w) 5 A.a_check_rows A.d_check_rows P_check_rows (fun vs H Q E => spChkRG vs H Q E ∨ spChkRM P w K A.a_BadRow vs H Q E) := fnOr (fnLift ((ok_chkrG T).mono (by omega))) (ok_chkrM T)
  have G_check_rounds : FnOk P w K mg base (L2.CX P w) 5 A.a_check_rounds A.d_check_rounds P_check_rounds (spRoundsX K A.a_Round) := ok_roundsX T
  refine T.f_Hanging___init__.okX sc_Hanging___init__ (fun vs H Q E h => ?_) (fun cdv A' outer s H vs Q E hr h => ?_)
  · obtain ⟨p, dd, rfl, _⟩ := h
    rfl
  · obtain ⟨p, dd, rfl, h⟩ := h
    refine ⟨_, (pss_cons (ps_expr (pe_call G_check_rows (hr.mono (by omega)) (by rfl) T.g_check_rows T.f_check_rows.kp T.b_check_rows .nil (passes_call (takes_of rfl rfl rfl rfl) (fun _ _ _ _ h => h)) (pa_cons (pv 1) pa_nil)))
 (pss_cons (ps_expr (pe_call G_check_rounds (hr.mono (by omega)) (by rfl) T.g_check_rounds T.f_check_rounds.kp T.b_check_rounds .nil (passes_call (takes_of rfl rfl rfl rfl) (fun _ _ _ _ h => h)) (pa_cons (pv 1) pa_nil)))
 pss_never)), ?_⟩
    rcases h with h | ⟨ns, ys, hk, k, z, l, hd, nm, R, ra⟩
    · exact ⟨_, rfl, .inr h⟩
    · refine ⟨_, rfl, .inl ⟨dd, ns, hk, rfl, hd, R.nd, nm, R.ho, R.nl, fun H1 s1 => ?_⟩⟩
      exact ⟨_, rfl, dd, ns, ys, hk, k, z, l, rfl, s1 _ _ hd, R.nd, R.ho, R.nl, R.py, R.asc, R.at_, R.no, R.so, R.ll, fun p dd H' s e q => ra p dd H' (s1.trans s) e q⟩
def spBInitX (P : Program) (w : World) (K : PySem.W.Frag) (CB CR : Addr) : Sp := fun vs H Q E => ∃ (p dd : Addr), vs = [.ref p, .ref dd] ∧ (spChkEM P w K CB [.ref dd] H Q E ∨
  ∃ (kvs : List (Key × V)) (ns ys : List Str) (hk : Str → Str) (wt : Str → Int) (k : Nat) (z : Str) (l : List Str), H dd = some (.dK kvs) ∧ Pr2 K H ns (fun n => .str (hk n)) (fun n => .int (wt n)) kvs ∧ (∀ n ∈ ns, Nm n ∧ 0 ≤ wt n) ∧ RdOk ns ys hk k z l ∧ RaL K CR l H E)
theorem ok_binitX (T : Txt K mg A) : FnOk P w K mg base (L2.CX P w) 6 A.a_Book___init__ A.d_Book___init__ P_Book___init__ (spBInitX P w K A.a_BadRow A.a_Round) := by
  have G_check_entries : FnOk P w K mg base (L2.CX P w) 5 A.a_check_entries A.d_check_entries P_check_entries (fun vs H Q E => spChkE K vs H Q E ∨ spChkEM P w K A.a_BadRow vs H Q E) := fnOr (fnLift ((ok_chke T).mono (by omega))) (ok_chkeM T)
  have G_check_rounds : FnOk P w K mg base (L2.CX P w) 5 A.a_check_rounds A.d_check_rounds P_check_rounds (spRoundsX K A.a_Round) := ok_roundsX T
  refine T.f_Book___init__.okX sc_Book___init__ (fun vs H Q E h => ?_) (fun cdv A' outer s H vs Q E hr h => ?_)
  · obtain ⟨p, dd, rfl, _⟩ := h
    rfl
  · obtain ⟨p, dd, rfl, h⟩ := h
    refine ⟨_, (pss_cons (ps_expr (pe_call G_check_entries (hr.mono (by omega)) (by rfl) T.g_check_entries T.f_check_entries.kp T.b_check_entries .nil (passes_call (takes_of rfl rfl rfl rfl) (fun _ _ _ _ h => h)) (pa_cons (pv 1) pa_nil)))
 (pss_cons (ps_expr (pe_call G_check_rounds (hr.mono (by omega)) (by rfl) T.g_check_rounds T.f_check_rounds.kp T.b_check_rounds .nil (passes_call (takes_of rfl rfl rfl rfl) (fun _ _ _ _ h => h)) (pa_cons (pe_lock (pe_dc (own := [("name", 2)]) (g := gName 2) (by rfl) sc_Book___init__.nd (pi_keys (pv 1)) (blkOk_by (N := N_Book___init__) (sc := defScope s_Book___init__) (by decide +kernel)) (fun _ _ _ _ _ => pg_name (i := 2) sc_Book___init__.nd rfl (Or.inl rfl)) (fun _ _ _ _ _ => pts_nil) (fun _ _ _ _ _ => (pv 2)) (fun _ _ _ _ _ => (pe_ix (Own.ixTupOf (K := K) rfl) (pe_dget (hu_of hr) (pv 1) (pv 2) (fun _ _ => rfl)) pe_int (fun _ _ => rfl))))) pa_nil)))
 pss_never)), ?_⟩
    rcases h with h | ⟨kvs, ns, ys, hk, wt, k, z, l, hd, hP, nm, R, ra⟩
    · exact ⟨_, rfl, .inr h⟩
    have kN := R.nd
    have hl := R.nl
    have hB : ∀ n ∈ ns, Nm n ∧ (hk n = "clock" ∨ hk n ∈ ns) ∧ 0 ≤ wt n := fun n m => ⟨(nm n m).1, R.ho.cl n m, (nm n m).2⟩
    refine ⟨_, rfl, .inl ⟨dd, kvs, ns, hk, wt, rfl, hd, hP, kN, hl, hB, fun H1 s1 => ?_⟩⟩
    have hd1 := s1 _ _ hd
    have hP1 := hP.up s1
    refine ⟨dd, _, hd1, trivial, fun od => ?_⟩
    have hPf : Pr2 K (upd H1 dd (.frz od (.dK kvs))) ns (fun n => .str (hk n)) (fun n => .int (wt n)) kvs := hP1.set hd1 (noTup_dK _)
    refine ⟨_, rfl, dd, od, rfl, .inl ⟨kvs, upd_same, fun D hD => fillD walk_keys (fun i H' => Same (upd H1 dd (.frz od (.dK kvs))) H' ∧ H' D = some (.dK (kvF (ns.take i) fun n => .str (hk n)))) ⟨Same.new hD, upd_same⟩ (fun i H' _ h => h.1 _ _ upd_same) ?_ (fun H2 h2 => ?_)⟩⟩
    · rintro i x H' H'' hi ⟨s2, hD2⟩ ⟨rfl, key, v, hkv, rfl⟩
      obtain ⟨hi1, a, rfl, rfl, hq⟩ := hPf.get hkv
      have hm := List.getElem_mem hi1
      obtain ⟨a2, hv, hq2⟩ := hPf.val kN hm
      refine ⟨rfl, _, rfl, _, rfl, _, rfl, dd, .ref a2, rfl, .inl ⟨kvs, .inr ns[i], .inr ⟨od, s2 _ _ upd_same⟩, rfl, hv.symm⟩, _, _, _, _, rfl, rfl, stUp hq2 s2, rfl, _, .inr ns[i], rfl, hD2, ?_, ?_, ?_⟩
      · rw [kvF_len, List.length_take]; exact Nat.lt_of_le_of_lt (show min i _ ≤ 64 by omega) (by decide)
      · exact fun c u e => by rw [upd_ne (ne_of_none e hD)]; exact s2 _ _ e
      · rw [put_new _ _ _ (by
          rw [kvF_keys]
          intro m
          obtain ⟨z, hz, ez⟩ := List.mem_map.mp m
          exact not_in_take kN hi1 (by rw [← Sum.inr.inj ez]; exact hz)), upd_same, List.take_succ, List.getElem?_eq_getElem hi1]
        exact congrArg (fun z => some (HO.dK z)) (kvF_snoc (ns.take i) ns[i] fun n => .str (hk n)).symm
    obtain ⟨s2, hD2⟩ := h2
    rw [hP.len, List.take_length] at hD2
    have nDd : D ≠ dd := fun e => by rw [e, upd_same] at hD; cases hD
    refine ⟨s2 _ _ upd_same, ?_⟩
    have S2 : Same H1 (upd H2 dd (.dK kvs)) := unfrz hd1 s2
    have hD3 : upd H2 dd (.dK kvs) D = some (.dK (kvF ns fun n => .str (hk n))) := by rw [upd_ne nDd]; exact hD2
    generalize upd H2 dd (.dK kvs) = H3 at S2 hD3 ⊢
    exact ⟨D, ns, ys, hk, k, z, l, rfl, hD3, R.nd, R.ho, R.nl, R.py, R.asc, R.at_, R.no, R.so, R.ll, fun p dd H' s e q => ra p dd H' ((s1.trans S2).trans s) e q⟩
end
end K5
set_option Elab.async false
set_option linter.all false
set_option maxRecDepth 100000
set_option maxHeartbeats 4000000
namespace K5
open PySem L2
local macro_rules | `(tactic| walk_at "rd1") => `(tactic| first
  | refine ⟨_, _, rfl, rfl, ?_⟩
  | refine ⟨_, _, _, _, rfl, rfl, SqL.of (by assumption), rfl, ?_⟩
  | refine ⟨_, _, _, _, rfl, rfl, (by assumption), rfl, ?_⟩
  | refine .inl ⟨_, rfl, ?_⟩
  | refine ⟨_, rfl, ?_⟩
  | refine ⟨(by unfold CMul; omega), ?_⟩
  | refine ⟨(by unfold CPow; omega), ?_⟩
  | refine ⟨(by (try dsimp only); omega), ?_⟩
  | refine ⟨(by unfold CDiv; omega), ?_⟩
  | fail "rd1")
local macro_rules | `(tactic| walk_at "rd") => `(tactic| repeat' (walk_at "rd1"))
open Own
section
variable {P : Program} {w : World} {K : PySem.W.Frag} {mg : Str → Option Value} {base : Heap} {A : Ad}
def spLNameA (K : PySem.W.Frag) : Sp := fun vs H Q _ => ∃ (x : V), vs = [x] ∧ ((∃ s : Str, x = .str s ∧ s.length ≤ 1000 ∧ ∀ H', Same H H' → Q (.bl (nmB s)) H') ∨ ∃ t, TyX K H x (.type t) ∧ kitB t "str" = some false ∧ Q (.bl false) H)
theorem ok_lnameA (T : Txt K mg A) : FnOk P w K mg base CX0 1 A.a__law_is_name A.d__law_is_name P__law_is_name (spLNameA K) := by
  refine T.f__law_is_name.ok sc__law_is_name (fun vs H Q E h => ?_) (fun cdv A' outer s H vs Q E hr h => ?_)
  · obtain ⟨x, rfl, _⟩ := h
    rfl
  · obtain ⟨x, rfl, h⟩ := h
    refine ⟨_, (pss_cons (ps_set (i := 1) sc__law_is_name.nd rfl (Or.inr rfl) pe_str)
 (pss_cons (ps_if (PW.pt (pw_or (pt_not (pt_val (pe_callB call_isi (by rfl) T.isinstance (by decide +kernel) (pa_cons (pv 0) (pa_cons (pe_bltn (v := .ty "str") (u := .type "str") (by rfl) T.str (by decide +kernel) rfl) pa_nil))))) (pw_or (pt_cmpR op_eq (pv 0) pe_str (nomark _)) (pw_or1 (pt_not (pt_chain op_le op_le pe_int (pe_callB call_len_str (by rfl) T.len PySem.boot_len (pa_cons (pv 0) pa_nil)) pe_int))))))
 (pss_one (ps_ret pe_bl))
 pss_nil)
 (pss_one (ps_ret (pe_callB (cr_all rfl) (by rfl) T.all (by decide +kernel) (pa_cons (pe_lc (own := [("_law_sign", 2)]) (g := gName 2) (by rfl) sc__law_is_name.nd (pi_str (pv 0)) (blkOk_by (N := N__law_is_name) (sc := defScope s__law_is_name) (by decide +kernel)) (fun _ _ _ _ _ => pg_name (i := 2) sc__law_is_name.nd rfl (Or.inl rfl)) (fun _ _ _ _ _ => pts_nil) (fun _ _ _ _ _ => (pe_cmpR op_in_sign (pv 2) (pv 1) (by rfl)))) pa_nil)))))), ?_⟩
    rcases h with ⟨z, rfl, zl, k⟩ | ⟨t, ht, hk, k⟩
    · refine ⟨_, rfl, _, _, .type "str", _, true, rfl, .ty _, .base (.str _), kit_ty (by decide +kernel), _, rfl, iteF ?_⟩
      have hsz : z.length ≤ sizeLine := Nat.le_trans zl (by decide)
      refine ⟨_, rfl, rfl, _, rfl, ite2 (fun q => ?_) (fun c1 => ?_)⟩
      · have e : z = "clock" := V.str.inj (of_decide_eq_true q)
        have := k _ (Same.refl _)
        unfold nmB at this
        rwa [show decide (z ≠ "clock") = false from decide_eq_false (fun n => n e), Bool.false_and] at this
      have n1 : z ≠ "clock" := fun e => c1 (by rw [e]; exact decide_eq_true rfl)
      unfold nmB at k
      rw [decide_eq_true n1, Bool.true_and] at k
      refine ⟨_, rfl, z, rfl, hsz, _, _, rfl, rfl, _, rfl, ite2 (fun c2 => ?_) (fun c2 => ?_)⟩
      · have c2 : (1 : Int) ≤ z.length := of_decide_eq_true c2
        rw [decide_eq_true (show 1 ≤ z.length by omega), Bool.true_and] at k
        refine ⟨_, _, rfl, rfl, _, rfl, ?_⟩
        by_cases c3 : (z.length : Int) ≤ 8
        · rw [decide_eq_true (show z.length ≤ 8 by omega), Bool.true_and] at k
          rw [decide_eq_true c3]
          refine iteF ?_
          refine ⟨_, rfl, z, rfl, fun D hD => lc_it walk_str (fun i H' => Same H H' ∧ H' D = some (.lst (((z.cps.toList.take i).map fun c => decide (c ∈ letters.cps.toList)).map V.bl))) ⟨Same.new hD, upd_same⟩ (fun _ _ _ _ => trivial) ?_ (fun H' q => ?_)⟩
          · rintro i x H' H'' hi ⟨s1, hD'⟩ ⟨rfl, c, hc, rfl⟩
            have hc2 : z.cps.toList[i]? = some c := by rw [Array.getElem?_toList]; exact hc
            refine ⟨rfl, _, rfl, _, rfl, c, letters, rfl, rfl, _, hD', ?_, fun b u e => by rw [upd_ne (ne_of_none e hD)]; exact s1 _ _ e, ?_⟩
            · rw [List.length_map, List.length_map, List.length_take]
              exact Nat.lt_of_le_of_lt (show min i _ ≤ 1000 by have : i < z.length := hi; omega) (by decide)
            · rw [upd_same, List.take_succ, hc2, List.map_append, List.map_append]; rfl
          · obtain ⟨s1, hD⟩ := q
            rw [show z.cps.size = z.cps.toList.length from Array.length_toList.symm, List.take_length] at hD
            refine ⟨D, _, rfl, SqL.of hD, ?_⟩
            have := k _ s1
            rw [List.all_map]
            exact this
        · rw [decide_eq_false (show ¬ z.length ≤ 8 by omega), Bool.false_and] at k
          rw [decide_eq_false c3]
          exact iteT (k _ (Same.refl _))
      · have c2 : ¬ (1 : Int) ≤ z.length := fun e => c2 (decide_eq_true e)
        rw [decide_eq_false (show ¬ 1 ≤ z.length by omega), Bool.false_and] at k
        exact ⟨_, rfl, iteT (k _ (Same.refl _))⟩
    · exact ⟨_, rfl, _, _, .type t, _, false, rfl, .ty _, ht, kit_ty hk, _, rfl, iteT k⟩
end
end K5
set_option Elab.async false
set_option linter.all false
set_option maxRecDepth 100000
set_option maxHeartbeats 4000000
namespace K5
open PySem L2
local macro_rules | `(tactic| walk_at "rd1") => `(tactic| first
  | refine ⟨_, _, rfl, rfl, ?_⟩
  | refine ⟨_, _, _, _, rfl, rfl, SqL.of (by assumption), rfl, ?_⟩
  | refine ⟨_, _, _, _, rfl, rfl, (by assumption), rfl, ?_⟩
  | refine .inl ⟨_, rfl, ?_⟩
  | refine ⟨_, rfl, ?_⟩
  | refine ⟨(by unfold CMul; omega), ?_⟩
  | refine ⟨(by unfold CPow; omega), ?_⟩
  | refine ⟨(by (try dsimp only); omega), ?_⟩
  | refine ⟨(by unfold CDiv; omega), ?_⟩
  | fail "rd1")
local macro_rules | `(tactic| walk_at "rd") => `(tactic| repeat' (walk_at "rd1"))
open Own
section
variable {P : Program} {w : World} {K : PySem.W.Frag} {mg : Str → Option Value} {base : Heap} {A : Ad}
theorem nothing07 : True := trivial
end
end K5
set_option Elab.async false
set_option linter.all false
set_option maxRecDepth 100000
set_option maxHeartbeats 4000000
namespace K5
open PySem L2
local macro_rules | `(tactic| walk_at "rd1") => `(tactic| first
  | refine ⟨_, _, rfl, rfl, ?_⟩
  | refine ⟨_, _, _, _, rfl, rfl, SqL.of (by assumption), rfl, ?_⟩
  | refine ⟨_, _, _, _, rfl, rfl, (by assumption), rfl, ?_⟩
  | refine .inl ⟨_, rfl, ?_⟩
  | refine ⟨_, rfl, ?_⟩
  | refine ⟨(by unfold CMul; omega), ?_⟩
  | refine ⟨(by unfold CPow; omega), ?_⟩
  | refine ⟨(by (try dsimp only); omega), ?_⟩
  | refine ⟨(by unfold CDiv; omega), ?_⟩
  | fail "rd1")
local macro_rules | `(tactic| walk_at "rd") => `(tactic| repeat' (walk_at "rd1"))
open Own
section
variable {P : Program} {w : World} {K : PySem.W.Frag} {mg : Str → Option Value} {base : Heap} {A : Ad}
def spRisingM (P : Program) (w : World) : Sp := fun vs H Q _ => ∃ (d : Addr) (xs : List (MK × V × V)) (ss : List Str), vs = [.ref d] ∧ H d = some (MxO P w d xs) ∧ (∀ z ∈ xs, KeyAt H z) ∧ xs.map (·.1) = ss.map Sum.inl ∧ ss.length ≤ 64 ∧
  ∀ (p : Addr) (ys : List Str) (H' : Hp), ys.Perm ss → ys.Pairwise sle → H p = none → Same H H' → H' p = some (.lst (ys.map V.str)) → Q (.ref p) H'
theorem key_str {H : Hp} {xs : List (MK × V × V)} {ss : List Str} (hk : ∀ z ∈ xs, KeyAt H z) (e : xs.map (·.1) = ss.map Sum.inl) {i : Nat} {z : MK × V × V} (hz : xs[i]? = some z) : ∃ hi : i < ss.length, z.1 = .inl ss[i] ∧ z.2.1 = .str ss[i] := by
  have hi : i < ss.length := by
    have := congrArg List.length e
    rw [List.length_map, List.length_map] at this
    rw [← this]
    exact (List.getElem?_eq_some_iff.mp hz).1
  have e1 : (xs.map (·.1))[i]? = some z.1 := by rw [List.getElem?_map, hz]; rfl
  rw [e, List.getElem?_map, List.getElem?_eq_getElem hi] at e1
  have e1 := (Option.some.inj e1).symm
  have k := hk z (List.mem_of_getElem? hz)
  unfold KeyAt at k
  rw [e1] at k
  exact ⟨hi, e1, k⟩
theorem ok_risingM (T : Txt K mg A) : FnOk P w K mg base CX0 1 A.a__law_rising A.d__law_rising P__law_rising (spRisingM P w) := by
  refine T.f__law_rising.ok sc__law_rising (fun vs H Q E h => ?_) (fun cdv A' outer s H vs Q E hr h => ?_)
  · obtain ⟨d, xs, ss, rfl, _⟩ := h
    rfl
  · obtain ⟨d, xs, ss, rfl, hd, hkey, hk, hl, k⟩ := h
    refine ⟨_, (pss_cons (ps_set (i := 1) sc__law_rising.nd rfl (Or.inl rfl) (pe_lst pa_nil))
 (pss_cons (ps_lock (ps_for PassesOwn.never rfl (Own.pi_mx (P := P) (w := w) rfl rfl (pv 0)) (pg_name (i := 2) sc__law_rising.nd rfl (Or.inr rfl))
 (pss_one (ps_expr (pe_bm PySem.F.plainAttrs_list PySem.F.slot_list_insert PySem.F.type_list_insert mt_insert (pv 1) (pa_cons (pe_callB call_len_seq (by rfl) T.len PySem.boot_len (pa_cons (pe_lc (own := [("_law_x", 3)]) (g := gName 3) (by rfl) sc__law_rising.nd (pi_list (pv 1)) (blkOk_by (N := N__law_rising) (sc := defScope s__law_rising) (by decide +kernel)) (fun _ _ _ _ _ => pg_name (i := 3) sc__law_rising.nd rfl (Or.inl rfl)) (fun _ _ _ _ _ => pts_one (pt_cmpR op_le_str (pv 3) (pv 2) (nomark _))) (fun _ _ _ _ _ => (pv 3))) pa_nil)) (pa_cons (pv 2) pa_nil)))))))
 (pss_one (ps_ret (pv 1))))), ?_⟩
    refine ⟨Nat.zero_le _, fun p hp => ?_⟩
    have npd : d ≠ p := ne_of_none hd hp
    have hd0 := Same.new hp (o := .lst []) _ _ hd
    refine ⟨d, _, hd0, trivial, fun od => ?_⟩
    have hf := upd_same (H := upd H p (.lst [])) (a := d) (o := .frz od (MxO P w d xs))
    have hp0 : upd (upd H p (.lst [])) d (.frz od (MxO P w d xs)) p = some (.lst []) := by rw [upd_ne npd.symm]; exact upd_same
    have back : ∀ H', Same (er (upd (upd H p (.lst [])) d (.frz od (MxO P w d xs))) p) H' → Same H (upd H' d (MxO P w d xs)) := fun H' s b u e => by
      by_cases c : b = d
      · subst c
        rw [hd] at e
        cases e
        exact upd_same
      · rw [upd_ne c]
        have nb : b ≠ p := ne_of_none e hp
        exact s _ _ (er_of nb (by rw [upd_ne c, upd_ne nb]; exact e))
    refine ⟨_, rfl, d, od, xs, rfl, hf, ?_⟩
    generalize upd (upd H p (.lst [])) d (.frz od (MxO P w d xs)) = Hf at hf hp0 back ⊢
    have same_at : ∀ {H' : Hp} {o : HO}, Same (er Hf p) H' → Same (er Hf p) (upd H' p o) := fun s b u e => by
      rw [upd_ne (er_some e).1]; exact s _ _ e
    refine for_it walk_mx (fun i σ' H' => ∃ x acc, σ' = [some (.ref d), some (.ref p), x, none] ∧ Same (er Hf p) H' ∧ H' p = some (.lst (acc.map V.str)) ∧ acc.Perm (ss.take i) ∧ acc.Pairwise sle)
      ⟨_, [], rfl, er_same _ _, hp0, List.Perm.refl _, .nil⟩ (fun i σ' H' _ z => z.choose_spec.choose_spec.2.1 _ _ (er_of npd hf)) ?_ ?_
    · rintro i v σ' H' H'' hi ⟨x, acc, rfl, s1, hacc, hperm, hsort⟩ ⟨rfl, z, hz, rfl⟩
      obtain ⟨hi, _, es⟩ := key_str hkey hk hz
      rw [es]
      have hal : acc.length ≤ 64 := by rw [hperm.length_eq, List.length_take]; omega
      refine ⟨_, rfl, .inl ⟨rfl, _, SqL.of hacc⟩, _, rfl, p, rfl, ⟨_, SqL.of hacc⟩, fun D hD => lc_it (walk_list (K := K) (a := p)) (fun j H3 => Same H'' H3 ∧ H3 D = some (.lst (((acc.take j).filter fun x => decide (sle x ss[i])).map V.str))) ⟨Same.new hD, upd_same⟩ (fun j H3 _ z => SqL.of (z.1 _ _ hacc)) ?_ (fun H3 z => ?_)⟩
      · rintro j y H3 H4 hj ⟨s3, hD3⟩ ⟨rfl, hy⟩
        obtain ⟨hj, rfl⟩ := str_at hy
        have et : (acc.take (j + 1)).filter (fun x => decide (sle x ss[i])) = (acc.take j).filter (fun x => decide (sle x ss[i])) ++ (if sle acc[j] ss[i] then [acc[j]] else []) := by
          rw [List.take_succ, List.getElem?_eq_getElem hj, List.filter_append]
          congr 1
          by_cases e : sle acc[j] ss[i] <;> simp [e]
        have hfl : (((acc.take j).filter fun x => decide (sle x ss[i])).map V.str).length ≤ 64 := by
          rw [List.length_map]
          refine Nat.le_trans (List.length_filter_le _ _) (by rw [List.length_take]; omega)
        refine ⟨rfl, _, rfl, _, rfl, _, _, rfl, rfl, _, rfl, ite2 (fun q => ?_) (fun q => ?_)⟩
        · have e : sle acc[j] ss[i] := fun z => by
            rw [decide_eq_true (show ss[i].cps.toList < acc[j].cps.toList from z)] at q
            cases q
          refine ⟨_, rfl, _, hD3, Nat.lt_of_le_of_lt hfl (by decide), ?_, ?_⟩
          · exact fun b u e => by rw [upd_ne (ne_of_none e hD)]; exact s3 _ _ e
          · rw [upd_same, et, if_pos e, List.map_append]; rfl
        · have e : ¬ sle acc[j] ss[i] := fun z => q (by rw [decide_eq_false (show ¬ ss[i].cps.toList < acc[j].cps.toList from z)]; rfl)
          exact ⟨s3, by rw [et, if_neg e, List.append_nil]; exact hD3⟩
      · obtain ⟨s3, hD3⟩ := z
        rw [List.length_map, List.take_length] at hD3
        have hk := rk_le ss[i] acc
        have ek : (((acc.filter fun x => decide (sle x ss[i])).map V.str).length : Int) = ((rk ss[i] acc : Nat) : Int) := by rw [List.length_map]; rfl
        refine ⟨D, _, rfl, .inl (SqL.of hD3), _, rfl, p, acc.map V.str, _, _, rfl, rfl, s3 _ _ hacc, by rw [List.length_map]; exact Nat.lt_of_le_of_lt hal (by decide), by omega, by omega, ?_⟩
        rw [ek, Int.toNat_natCast]
        refine ⟨_, acc.take (rk ss[i] acc) ++ [ss[i]] ++ acc.drop (rk ss[i] acc), rfl, same_at (s1.trans s3), ?_, ?_, rise_sorted ss[i] hsort⟩
        · rw [upd_same, List.map_append, List.map_append, List.map_take, List.map_drop]; rfl
        · rw [List.take_succ, List.getElem?_eq_getElem hi]
          exact (rise_perm _ _ _).trans (hperm.append_right _)
    · rintro σ' H' ⟨x, acc, rfl, s1, hacc, hperm, hsort⟩
      have xl : xs.length = ss.length := by have := congrArg List.length hk; rwa [List.length_map, List.length_map] at this
      rw [xl, List.take_length] at hperm
      exact ⟨s1 _ _ (er_of npd hf), _, rfl, k p acc _ hperm hsort hp (back _ s1) (by rw [upd_ne npd.symm]; exact hacc)⟩
end
end K5
set_option Elab.async false
set_option linter.all false
set_option maxRecDepth 100000
set_option maxHeartbeats 4000000
namespace K5
open PySem L2
local macro_rules | `(tactic| walk_at "rd1") => `(tactic| first
  | refine ⟨_, _, rfl, rfl, ?_⟩
  | refine ⟨_, _, _, _, rfl, rfl, SqL.of (by assumption), rfl, ?_⟩
  | refine ⟨_, _, _, _, rfl, rfl, (by assumption), rfl, ?_⟩
  | refine .inl ⟨_, rfl, ?_⟩
  | refine ⟨_, rfl, ?_⟩
  | refine ⟨(by unfold CMul; omega), ?_⟩
  | refine ⟨(by unfold CPow; omega), ?_⟩
  | refine ⟨(by (try dsimp only); omega), ?_⟩
  | refine ⟨(by unfold CDiv; omega), ?_⟩
  | fail "rd1")
local macro_rules | `(tactic| walk_at "rd") => `(tactic| repeat' (walk_at "rd1"))
open Own
section
variable {P : Program} {w : World} {K : PySem.W.Frag} {mg : Str → Option Value} {base : Heap} {A : Ad}
/-- whether a row hangs on the clock or on a key, by the law's own look -/
def lawH (d : PyData) (ks : List MK) : Bool := match d with
  | .str s => decide (s = "clock") || ks.any fun k => decide (k = (Sum.inl s : MK))
  | _ => false
theorem eqv_ss (s t : Str) : PyData.eqv (.str s) (.str t) = decide (s = t) := by
  rw [PyData.eqv]
  exact Bool.eq_iff_iff.mpr ⟨fun h => decide_eq_true (eq_of_beq h), fun h => beq_iff_eq.mpr (of_decide_eq_true h)⟩
theorem dpStrI {H : Hp} {x : V} {s : Str} (h : Dp K H x (.str s)) : x = .str s := by cases h; rfl
theorem key_lname {H : Hp} {z : MK × V × V} {Q : VK} {E : XK} (h : KeyAt H z) (l : ∀ s, z.1 = .inl s → s.length ≤ 1000) (k : ∀ H', Same H H' → Q (.bl (nmK z.1)) H') : spLNameA K [z.2.1] H Q E := key_name (E := E) h l k
def inD (ks : List PyData) (k : MK) : Bool := ks.any fun z => PyData.eqv z (kdM k)
def okRow (ks : List MK) (dv : MK → PyData) (bad : List PyData) (k : MK) : Bool := nmK k && (lawH (dv k) ks && !inD bad k)
def spDue (P : Program) (w : World) (K : PySem.W.Frag) : Sp := fun vs H Q _ => ∃ (d bl : Addr) (xs : List (MK × V × V)) (dv : MK → PyData) (bvs : List V) (bds : List PyData), vs = [.ref d, .ref bl] ∧ H d = some (MxO P w d xs) ∧ OdR K H xs dv ∧ (∀ z ∈ xs, SeqAt.shaped (dv z.1) = true) ∧ SqL K H bl bvs ∧ DpAll K H bvs bds ∧ SeqAt.shaped (.list bds) = true ∧ xs.length ≤ 60 ∧
  ((∃ (k : Nat) (z : MK × V × V), (∀ (i : Nat) (q : MK × V × V), i < k → xs[i]? = some q → okRow (xs.map (·.1)) dv bds q.1 = true) ∧ xs[k]? = some z ∧ okRow (xs.map (·.1)) dv bds z.1 = false ∧ ∀ t H', Same H H' → H' t = some (.tup [.str "row", z.2.1]) → Q (.ref t) H') ∨
  ∃ (ns ys : List Str) (hk : Str → Str), (∀ q ∈ xs, okRow (xs.map (·.1)) dv bds q.1 = true) ∧ xs.map (·.1) = ns.map Sum.inl ∧ (∀ n ∈ ns, dv (.inl n) = .str (hk n)) ∧ HkOk ns hk ∧ ns.Nodup ∧ ys.Perm ns ∧ ys.Pairwise sle ∧
   (((∀ n ∈ ns, rndOf hk ns.length n = none) ∧ ∀ H', Same H H' → Q .non H') ∨
    ∃ (k : Nat) (z : Str) (l : List Str), ys[k]? = some z ∧ (∀ (i : Nat) (q : Str), i < k → ys[i]? = some q → rndOf hk ns.length q = none) ∧ rndOf hk ns.length z = some l ∧ ∀ t p H', Same H H' → H' t = some (.tup [.str "round", .ref p]) → H' p = some (.lst (l.map V.str)) → Q (.ref t) H'))
theorem ok_due (T : Txt K mg A) : FnOk P w K mg base CX0 3 A.a__law_due A.d__law_due P__law_due (spDue P w K) := by
  have G__law_is_name : FnOk P w K mg base CX0 1 A.a__law_is_name A.d__law_is_name P__law_is_name (spLNameA K) := ok_lnameA T
  have G__law_rising : FnOk P w K mg base CX0 1 A.a__law_rising A.d__law_rising P__law_rising (spRisingM P w) := ok_risingM T
  refine T.f__law_due.ok sc__law_due (fun vs H Q E h => ?_) (fun cdv A' outer s H vs Q E hr h => ?_)
  · obtain ⟨d, bl, xs, dv, bvs, bds, rfl, _⟩ := h
    rfl
  · obtain ⟨d, bl, xs, dv, bvs, bds, rfl, hd, O, sh, hbl, hbd, shb, xl, h⟩ := h
    refine ⟨_, (pss_cons (ps_lock (ps_for PassesOwn.never rfl (Own.pi_mx (P := P) (w := w) rfl rfl (pv 0)) (pg_name (i := 2) sc__law_due.nd rfl (Or.inl rfl))
 (pss_cons (ps_set (i := 3) sc__law_due.nd rfl (Or.inl rfl) (pe_and (pe_callB call_isi (by rfl) T.isinstance (by decide +kernel) (pa_cons (Own.pe_rget (P := P) (w := w) (K := K) rfl rfl rfl (hu_of hr) (pv 0) (pv 2) (fun _ _ => rfl)) (pa_cons (pe_bltn (v := .ty "str") (u := .type "str") (by rfl) T.str (by decide +kernel) rfl) pa_nil))) (pe_one (pe_or (pe_cmpR (op_eqD hr.units) (Own.pe_rget (P := P) (w := w) (K := K) rfl rfl rfl (hu_of hr) (pv 0) (pv 2) (fun _ _ => rfl)) pe_str (nomark _)) (pe_one (pe_cmp (Own.pc_rin (P := P) (w := w) (K := K) rfl rfl rfl (hu_of hr) (Own.pe_rget (P := P) (w := w) (K := K) rfl rfl rfl (hu_of hr) (pv 0) (pv 2) (fun _ _ => rfl)) (pv 0)) rfl))))))
 (pss_one (ps_if (PW.pt (pw_or (pt_not (pt_val (pe_call G__law_is_name (hr.mono (by omega)) (by rfl) T.g__law_is_name T.f__law_is_name.kp T.b__law_is_name .nil pass0 (pa_cons (pv 2) pa_nil)))) (pw_or (pt_not (pt_val (pv 3))) (pw_or1 (pt_cmpR (op_inD (un65 hr)) (pv 2) (pv 1) (by rfl))))))
 (pss_one (ps_ret (pe_tup (pa_cons pe_str (pa_cons (pv 2) pa_nil)))))
 pss_nil)))))
 (pss_cons (ps_for PassesOwn.never rfl (pi_list (pe_call G__law_rising (hr.mono (by omega)) (by rfl) T.g__law_rising T.f__law_rising.kp T.b__law_rising .nil pass0 (pa_cons (pv 0) pa_nil))) (pg_name (i := 2) sc__law_due.nd rfl (Or.inl rfl))
 (pss_cons (ps_par (i := 4) (j := 3) (by rfl) sc__law_due.nd rfl rfl (by decide) rfl rfl (pa_cons (pe_lst (pa_cons (pv 2) pa_nil)) (pa_cons (Own.pe_rget (P := P) (w := w) (K := K) rfl rfl rfl (hu_of hr) (pv 0) (pv 2) (fun _ _ => rfl)) pa_nil)) (by rfl))
 (pss_cons (ps_lock (ps_for PassesOwn.never rfl (Own.pi_mx (P := P) (w := w) rfl rfl (pv 0)) (pg_name (i := 5) sc__law_due.nd rfl (Or.inl rfl))
 (pss_one (ps_if (PW.pt (pw_and (pt_cmpR op_ne (pv 3) pe_str (nomark _)) (pw_and (pt_cmpR op_ne (pv 3) (pv 2) (nomark _)) (pw_and1 (pt_cmpR op_le (pe_callB call_len_seq (by rfl) T.len PySem.boot_len (pa_cons (pv 4) pa_nil)) (pe_callB (Own.call_lenM (P := P) (w := w) rfl rfl) (by rfl) T.len PySem.boot_len (pa_cons (pv 0) pa_nil)) (nomark _))))))
 (pss_one (ps_par (i := 4) (j := 3) (by rfl) sc__law_due.nd rfl rfl (by decide) rfl rfl (pa_cons (pe_op op_cat (pv 4) (pe_lst (pa_cons (pv 3) pa_nil))) (pa_cons (Own.pe_rget (P := P) (w := w) (K := K) rfl rfl rfl (hu_of hr) (pv 0) (pv 3) (fun _ _ => rfl)) pa_nil)) (by rfl)))
 pss_nil))))
 (pss_one (ps_if (pt_cmpR op_eq (pv 3) (pv 2) (nomark _))
 (pss_one (ps_ret (pe_tup (pa_cons pe_str (pa_cons (pv 4) pa_nil)))))
 pss_nil)))))
 (pss_one (ps_ret pe_non)))), ?_⟩
    obtain ⟨kk, hle, hgood, hbad, hrest⟩ : ∃ kk, kk ≤ xs.length ∧ (∀ (i : Nat) (q : MK × V × V), i < kk → xs[i]? = some q → okRow (xs.map (·.1)) dv bds q.1 = true) ∧ (∀ z, xs[kk]? = some z → okRow (xs.map (·.1)) dv bds z.1 = false ∧ ∀ t H', Same H H' → H' t = some (.tup [.str "row", z.2.1]) → Q (.ref t) H') ∧ (kk = xs.length → ∃ (ns ys : List Str) (hk : Str → Str), xs.map (·.1) = ns.map Sum.inl ∧ (∀ n ∈ ns, dv (.inl n) = .str (hk n)) ∧ HkOk ns hk ∧ ns.Nodup ∧ ys.Perm ns ∧ ys.Pairwise sle ∧
       (((∀ n ∈ ns, rndOf hk ns.length n = none) ∧ ∀ H', Same H H' → Q .non H') ∨
        ∃ (k : Nat) (z : Str) (l : List Str), ys[k]? = some z ∧ (∀ (i : Nat) (q : Str), i < k → ys[i]? = some q → rndOf hk ns.length q = none) ∧ rndOf hk ns.length z = some l ∧ ∀ t p H', Same H H' → H' t = some (.tup [.str "round", .ref p]) → H' p = some (.lst (l.map V.str)) → Q (.ref t) H')) := by
      rcases h with ⟨k, z, h1, h2, h3, h4⟩ | ⟨ns, ys, hk, h1, h2, h3, h4⟩
      · have kl := (List.getElem?_eq_some_iff.mp h2).1
        exact ⟨k, by omega, h1, fun z2 e => by rw [h2] at e; cases e; exact ⟨h3, h4⟩, fun e => by omega⟩
      · exact ⟨xs.length, Nat.le_refl _, fun i q _ e => h1 q (List.mem_of_getElem? e), fun z e => by simp at e, fun _ => ⟨ns, ys, hk, h2, h3, h4⟩⟩
    clear h
    refine ⟨d, _, hd, trivial, fun od => ?_⟩
    have hF := upd_same (H := H) (a := d) (o := .frz od (MxO P w d xs))
    have kpt := kept_upd (o := .frz od (MxO P w d xs)) hd rfl
    have OF := O.kept kpt
    have hblF := sql_kept kpt hbl
    have hbdF := dpAll_kept kpt _ _ hbd
    have back : ∀ {H'}, Same (upd H d (.frz od (MxO P w d xs))) H' → Same H (upd H' d (MxO P w d xs)) := fun s => unfrz hd s
    refine ⟨_, rfl, d, od, xs, rfl, hF, for_it walk_mx (fun i σ' H' => i ≤ kk ∧ ∃ x2 x3, σ' = [some (.ref d), some (.ref bl), x2, x3, none, none] ∧ Same (upd H d (.frz od (MxO P w d xs))) H') ⟨Nat.zero_le _, _, _, rfl, Same.refl _⟩ (fun i σ' H' _ ⟨_, _, _, _, e⟩ => e _ _ hF) ?_ (fun σ' H' z => ?_)⟩
    · rintro i x σ' H' H'' hi ⟨ik, x2, x3, rfl, s1⟩ ⟨rfl, q, hq, rfl⟩
      have mq := List.mem_of_getElem? hq
      have O1 := OF.kept (same_kept s1)
      have hF1 := s1 _ _ hF
      have rd : MRd P w H'' d (xs.map fun x => (x.1, x.2.2)) := ⟨xs, .inr ⟨od, hF1⟩, O1.key, rfl⟩
      have kL := keyAt_L (K := K) (O1.key q mq)
      have gv := O1.get hq
      have dp := O1.val q mq
      with_reducible refine joinG (fun v G => G = H'' ∧ v = .bl (lawH (dv q.1) (xs.map (·.1)))) (fun Q' kQ => ?_) (fun v G z => ?_)
      · have kQ := kQ _ H'' ⟨rfl, rfl⟩
        refine ⟨_, rfl, _, rfl, d, _, q.1, _, rfl, rd, kL, gv, _, _, .type (kindOf (dv q.1)), _, isSD (dv q.1), rfl, .ty _, tyD dp, kit_ty (kit_str _), _, rfl, ?_⟩
        have sd := sh q mq
        cases dd : dv q.1 with
        | str s =>
          rw [dd] at dp sd kQ
          refine iteT ⟨_, rfl, _, rfl, d, _, q.1, _, rfl, rd, kL, gv, _, _, dp, .str _, sd, by decide +kernel, _, rfl, ?_⟩
          have ee : PyData.eqv (.str s) (.str "clock") = decide (s = "clock") := eqv_ss s _
          have en : (valV (xs.map fun x => (x.1, x.2.2)) (Sum.inl s : MK)).isSome = (xs.map (·.1)).any fun k => decide (k = (Sum.inl s : MK)) := by
            rw [← valV_any, List.any_map, List.any_map]; rfl
          rw [show PyData.eqv (.str s) (.str (Str.ofString "clock")) = decide (s = "clock") from ee]
          unfold lawH at kQ
          dsimp only at kQ
          cases c : decide (s = "clock") with
          | true =>
            rw [c, Bool.true_or] at kQ
            exact iteT kQ
          | false =>
            rw [c, Bool.false_or, ← en] at kQ
            have kl : KeyL K H'' q.2.2 (Sum.inl s : MK) := dpStrI dp
            exact iteF ⟨_, rfl, _, rfl, d, _, q.1, _, rfl, rd, kL, gv, _, rfl, d, _, _, rfl, rd, kl, kQ⟩
        | none => rw [dd] at kQ; exact iteF kQ
        | bool b => rw [dd] at kQ; exact iteF kQ
        | int b => rw [dd] at kQ; exact iteF kQ
        | list b => rw [dd] at kQ; exact iteF kQ
        | tuple b => rw [dd] at kQ; exact iteF kQ
        | dict b => rw [dd] at kQ; exact iteF kQ
      obtain ⟨rfl, rfl⟩ := z
      have eo : okRow (xs.map (·.1)) dv bds q.1 = (nmK q.1 && (lawH (dv q.1) (xs.map (·.1)) && !inD bds q.1)) := rfl
      have ek : okRow (xs.map (·.1)) dv bds q.1 = false → i = kk := fun h => by
        rcases Nat.lt_or_ge i kk with c | c
        · rw [hgood i q c hq] at h; cases h
        · omega
      have lt : okRow (xs.map (·.1)) dv bds q.1 = true → i + 1 ≤ kk := fun h => by
        rcases Nat.lt_or_ge i kk with c | c
        · exact c
        · have e : i = kk := by omega
          subst e
          rw [(hbad q hq).1] at h
          cases h
      have out : ∀ H3, Same G H3 → okRow (xs.map (·.1)) dv bds q.1 = false → ∀ t, H3 t = none → upd H3 t (.tup [.str "row", q.2.1]) d = some (.frz od (MxO P w d xs)) ∧ Q (.ref t) (upd (upd H3 t (.tup [.str "row", q.2.1])) d (MxO P w d xs)) := fun H3 s3 h t nt => by
        have e := ek h
        subst e
        have S := (s1.trans s3).trans (Same.new nt (o := .tup [.str "row", q.2.1]))
        have ntd : t ≠ d := fun z => by rw [z, (s1.trans s3) _ _ hF] at nt; cases nt
        exact ⟨S _ _ hF, (hbad q hq).2 t _ (back S) (by rw [upd_ne ntd]; exact upd_same)⟩
      refine ⟨_, rfl, tn_nil ?_⟩
      dsimp only
      show spLNameA K [q.2.1] G _ _
      refine key_lname (O1.key q mq) (O1.kw q mq).2.2.2 fun H2 s2 => ⟨_, rfl, ?_⟩
      cases cn : nmK q.1 with
      | false => exact iteT ⟨_, rfl, by show 2 ≤ sizeLine; decide, fun t nt => out _ s2 (by rw [eo, cn]; rfl) t nt⟩
      | true =>
        refine iteF ⟨_, rfl, ?_⟩
        cases cl : lawH (dv q.1) (xs.map (·.1)) with
        | false => exact ⟨_, rfl, iteT ⟨_, rfl, by show 2 ≤ sizeLine; decide, fun t nt => out _ s2 (by rw [eo, cn, cl]; rfl) t nt⟩⟩
        | true =>
          refine ⟨_, rfl, iteF ?_⟩
          have s3 := s1.trans s2
          refine ⟨_, rfl, _, rfl, kdM q.1, bds, dpSame s2 (keyL_dp kL), .lst (sqUp hblF s3) (dpAllSame s3 hbdF), (O.kw q mq).2.2.1, shb, _, rfl, ?_⟩
          cases ci : (bds.any fun z => PyData.eqv z (kdM q.1)) with
          | true => exact iteT ⟨_, rfl, by show 2 ≤ sizeLine; decide, fun t nt => out _ s2 (by rw [eo, cn, cl]; unfold inD; rw [ci]; rfl) t nt⟩
          | false => exact iteF ⟨lt (by rw [eo, cn, cl]; unfold inD; rw [ci]; rfl), _, _, rfl, s3⟩
    obtain ⟨le, x2, x3, rfl, s1⟩ := z
    have le : xs.length ≤ kk := le
    obtain ⟨ns, ys, hk, ek, hdv, hK, nd, py, asc, h⟩ := hrest (by omega)
    clear hgood hbad hrest
    have xn : xs.length = ns.length := by have := congrArg List.length ek; rwa [List.length_map, List.length_map] at this
    refine ⟨s1 _ _ hF, ?_⟩
    have S1 := back s1
    generalize upd H' d (MxO P w d xs) = H1 at S1 ⊢
    have hd1 := S1 _ _ hd
    have O1 := O.kept (same_kept S1)
    clear hF kpt OF hblF hbdF back s1
    obtain ⟨kr, krl, hno, hso, hcalm⟩ : ∃ kr, kr ≤ ys.length ∧ (∀ (i : Nat) (q : Str), i < kr → ys[i]? = some q → rndOf hk ns.length q = none) ∧ (∀ z, ys[kr]? = some z → ∃ l, rndOf hk ns.length z = some l ∧ ∀ t p H', Same H H' → H' t = some (.tup [.str "round", .ref p]) → H' p = some (.lst (l.map V.str)) → Q (.ref t) H') ∧ (kr = ys.length → ∀ H', Same H H' → Q .non H') := by
      rcases h with ⟨h1, h2⟩ | ⟨k, z, l, h1, h2, h3, h4⟩
      · exact ⟨ys.length, Nat.le_refl _, fun i q _ e => h1 q (py.mem_iff.mp (List.mem_of_getElem? e)), fun z e => by simp at e, fun _ => h2⟩
      · have kl := (List.getElem?_eq_some_iff.mp h1).1
        exact ⟨k, by omega, h2, fun z2 e => by rw [h1] at e; cases e; exact ⟨l, h3, h4⟩, fun e => by omega⟩
    clear h
    have vl : ∀ {H2 : Hp}, OdR K H2 xs dv → ∀ n ∈ ns, valV (xs.map fun x => (x.1, x.2.2)) (Sum.inl n : MK) = some (.str (hk n)) := fun O2 n m => by
      obtain ⟨j, hj, e⟩ := List.getElem_of_mem m
      have hx : xs[j]? = some (xs[j]'(by omega)) := List.getElem?_eq_getElem (by omega)
      obtain ⟨_, e1, _⟩ := key_str O2.key ek hx
      have g := O2.get hx
      have v := O2.val _ (List.mem_of_getElem? hx)
      rw [e1, e] at g v
      rw [hdv n m] at v
      rw [g, dpStrI v]
    refine ⟨_, rfl, d, xs, ns, rfl, hd1, O1.key, ek, by omega, fun q ys2 H2 yp ysr nq s2 hq => ?_⟩
    obtain rfl : ys2 = ys := (yp.trans py.symm).eq_of_pairwise (fun _ _ _ _ a b => sle_anti a b) ysr asc
    have S2 := S1.trans s2
    refine ⟨q, rfl, ⟨_, SqL.of hq⟩, for_it walk_list (fun i σ' H' => i ≤ kr ∧ ∃ x2 x3 x4 x5, σ' = [some (.ref d), some (.ref bl), x2, x3, x4, x5] ∧ Same H2 H') ⟨Nat.zero_le _, _, _, _, _, rfl, Same.refl _⟩ (fun i σ' H' _ ⟨_, _, _, _, _, _, z⟩ => SqL.of (z _ _ hq)) ?_ (fun σ' H' z => ?_)⟩
    · rintro i v σ' H' H'' hi ⟨ik, x2, x3, x4, x5, rfl, s3⟩ ⟨rfl, hx⟩
      obtain ⟨hi, rfl⟩ := str_at hx
      have mi := yp.mem_iff.mp (List.getElem_mem hi)
      have S3 := S2.trans s3
      have hd3 := S3 _ _ hd
      have O3 := O.kept (same_kept S3)
      refine ⟨_, rfl, by show 1 ≤ sizeLine; decide, fun p np => ?_⟩
      have s4 := Same.new np (o := .lst [.str ys2[i]])
      have hp4 := upd_same (H := H'') (a := p) (o := .lst [.str ys2[i]])
      generalize upd H'' p (.lst [.str ys2[i]]) = H4 at s4 hp4 ⊢
      have S4 := S3.trans s4
      have hd4 := S4 _ _ hd
      have O4 := O.kept (same_kept S4)
      refine ⟨_, rfl, _, rfl, d, _, Sum.inl ys2[i], _, rfl, ⟨xs, .inl hd4, O4.key, rfl⟩, rfl, vl O4 _ mi, ?_⟩
      refine ⟨_, _, rfl, ?_⟩
      refine ⟨d, _, hd4, trivial, fun od2 => ?_⟩
      have hF := upd_same (H := H4) (a := d) (o := .frz od2 (MxO P w d xs))
      have kpt := kept_upd (o := .frz od2 (MxO P w d xs)) hd4 rfl
      have OF := O4.kept kpt
      have npd : p ≠ d := fun z => by rw [z, hd4] at hp4; cases hp4
      have hpF : upd H4 d (.frz od2 (MxO P w d xs)) p = some (.lst [.str ys2[i]]) := by rw [upd_ne npd]; exact hp4
      have back : ∀ {H'}, Same (upd H4 d (.frz od2 (MxO P w d xs))) H' → Same H4 (upd H' d (MxO P w d xs)) := fun s => unfrz hd4 s
      have nc := hK.nc
      refine ⟨_, rfl, d, od2, xs, rfl, hF, for_it walk_mx (fun j σ' H' => ∃ (acc : List Str) (h : Str) (p2 : Addr) (x5 : Option V), σ' = [some (.ref d), some (.ref bl), some (.str ys2[i]), some (.str h), some (.ref p2), x5] ∧ Same (upd H4 d (.frz od2 (MxO P w d xs))) H' ∧ H' p2 = some (.lst (acc.map V.str)) ∧ (h = "clock" ∨ h ∈ ns) ∧ acc.length ≤ j + 1 ∧ rnd hk ys2[i] (ns.length - j) h acc = rnd hk ys2[i] ns.length (hk ys2[i]) [ys2[i]])
        ⟨[ys2[i]], hk ys2[i], p, x5, rfl, Same.refl _, hpF, hK.cl _ mi, Nat.le_refl _, rfl⟩ (fun j σ' H' _ ⟨_, _, _, _, _, z, _⟩ => z _ _ hF) ?_ (fun σ' H' z => ?_)⟩
      · rintro j x σ' H' G hj ⟨acc, h, p2, x5', rfl, s5, hp2, hat, al, er⟩ ⟨rfl, zq, hzq, rfl⟩
        have hj2 : j < ns.length := by omega
        obtain ⟨f, ef⟩ : ∃ f, ns.length - j = f + 1 := ⟨ns.length - j - 1, by omega⟩
        have ef2 : ns.length - (j + 1) = f := by omega
        rw [ef] at er
        have stop : h = "clock" ∨ h = ys2[i] → rnd hk ys2[i] (ns.length - (j + 1)) h acc = rnd hk ys2[i] ns.length (hk ys2[i]) [ys2[i]] := fun z => by
          rw [← er, ef2, show rnd hk ys2[i] (f + 1) h acc = (acc, h) from if_pos z]
          cases f with
          | zero => rfl
          | succ f => exact if_pos z
        have stay : h = "clock" ∨ h = ys2[i] → ∃ (acc : List Str) (h2 : Str) (p3 : Addr) (x5 : Option V), ([some (.ref d), some (.ref bl), some (.str ys2[i]), some (.str h), some (.ref p2), x5'].set 5 (some zq.2.1) : St) = [some (.ref d), some (.ref bl), some (.str ys2[i]), some (.str h2), some (.ref p3), x5] ∧ Same (upd H4 d (.frz od2 (MxO P w d xs))) G ∧ G p3 = some (.lst (acc.map V.str)) ∧ (h2 = "clock" ∨ h2 ∈ ns) ∧ acc.length ≤ j + 1 + 1 ∧ rnd hk ys2[i] (ns.length - (j + 1)) h2 acc = rnd hk ys2[i] ns.length (hk ys2[i]) [ys2[i]] := fun z =>
          ⟨acc, h, p2, _, rfl, s5, hp2, hat, by omega, stop z⟩
        refine ⟨_, rfl, rfl, _, rfl, ite2 (fun c1 => ?_) (fun c1 => stay (.inl (by simpa using c1)))⟩
        have hne : h ≠ "clock" := fun e => by rw [e] at c1; cases c1
        have hin := hat.resolve_left hne
        refine ⟨_, rfl, _, rfl, rfl, _, rfl, ite2 (fun c2 => ?_) (fun c2 => stay (.inr (by simpa using c2)))⟩
        have hne2 : h ≠ ys2[i] := fun e => by rw [e] at c2; simp at c2
        have O5 := OF.kept (same_kept s5)
        have hF5 := s5 _ _ hF
        have rd : ∀ {G2 : Hp}, Same G G2 → MRd P w G2 d (xs.map fun x => (x.1, x.2.2)) := fun s => ⟨xs, .inr ⟨od2, s _ _ hF5⟩, (O5.kept (same_kept s)).key, rfl⟩
        refine ⟨_, rfl, p2, _, rfl, .inl (SqL.of hp2), _, rfl, d, _, rfl, rd (Same.refl _), _, _, rfl, rfl, _, rfl, ite2 (fun _ => ?_) (fun c3 => absurd ?_ c3)⟩
        · have e0 : rnd hk ys2[i] (f + 1) h acc = rnd hk ys2[i] f (hk h) (acc ++ [h]) := if_neg fun z => z.elim hne hne2
          refine ⟨_, rfl, _, rfl, by show 1 ≤ sizeLine; decide, fun w1 n1 => ?_⟩
          have s6 := Same.new n1 (o := .lst [.str h])
          have hw1 := upd_same (H := G) (a := w1) (o := .lst [.str h])
          generalize upd G w1 (.lst [.str h]) = G1 at s6 hw1 ⊢
          refine ⟨p2, w1, _, _, rfl, rfl, s6 _ _ hp2, hw1, by rw [List.length_map]; exact Nat.le_trans (show acc.length + 1 ≤ 64 by omega) (by decide), fun p3 n3 => ?_⟩
          have s7 := Same.new n3 (o := .lst (acc.map V.str ++ [.str h]))
          have hp3 := upd_same (H := G1) (a := p3) (o := .lst (acc.map V.str ++ [.str h]))
          generalize upd G1 p3 (.lst (acc.map V.str ++ [.str h])) = G2 at s7 hp3 ⊢
          have S7 := s6.trans s7
          refine ⟨_, rfl, _, rfl, d, _, Sum.inl h, _, rfl, rd S7, rfl, vl O5 _ hin, _, _, rfl, ?_⟩
          exact ⟨acc ++ [h], hk h, p3, _, rfl, s5.trans S7, by rw [hp3, List.map_append]; rfl, hK.cl _ hin, by rw [List.length_append, List.length_singleton]; omega, by rw [ef2, ← e0]; exact er⟩
        · rw [List.length_map, List.length_map]
          exact decide_eq_true (by omega)
      · obtain ⟨acc, h, p2, x5', rfl, s5, hp2, hat, al, er⟩ := z
        rw [show ns.length - xs.length = 0 by omega] at er
        have er : (acc, h) = rnd hk ys2[i] ns.length (hk ys2[i]) [ys2[i]] := er
        have eo : rndOf hk ns.length ys2[i] = if h = ys2[i] then some acc else none := by
          unfold rndOf
          rw [← er]
        have p2d : p2 ≠ d := fun z => by rw [z, s5 _ _ hF] at hp2; cases hp2
        have S5 := S4.trans (back s5)
        have hp2' : upd H' d (MxO P w d xs) p2 = some (.lst (acc.map V.str)) := by rw [upd_ne p2d]; exact hp2
        have s35 : Same H2 (upd H' d (MxO P w d xs)) := (s3.trans s4).trans (back s5)
        refine ⟨s5 _ _ hF, ?_⟩
        generalize upd H' d (MxO P w d xs) = H6 at S5 hp2' s35 ⊢
        refine ⟨_, rfl, _, rfl, rfl, _, rfl, ite2 (fun c => ?_) (fun c => ?_)⟩
        · rw [if_pos (V.str.inj (of_decide_eq_true c))] at eo
          have e : i = kr := by
            rcases Nat.lt_or_ge i kr with q | q
            · rw [hno i _ q (List.getElem?_eq_getElem hi)] at eo; cases eo
            · omega
          subst e
          obtain ⟨l, e1, e2⟩ := hso _ (List.getElem?_eq_getElem hi)
          rw [eo] at e1
          cases e1
          exact ⟨_, rfl, by show 2 ≤ sizeLine; decide, fun t nt => e2 t p2 _ (S5.trans (Same.new nt)) upd_same (Same.new nt _ _ hp2')⟩
        · rw [if_neg fun e => c (by rw [e]; exact decide_eq_true rfl)] at eo
          refine ⟨?_, _, _, _, _, rfl, s35⟩
          rcases Nat.lt_or_ge i kr with q | q
          · exact q
          · have e : i = kr := by omega
            subst e
            obtain ⟨l, e1, _⟩ := hso _ (List.getElem?_eq_getElem hi)
            rw [eo] at e1
            cases e1
    · obtain ⟨le2, y2, y3, y4, y5, rfl, s3⟩ := z
      have le2 : (ys2.map V.str).length ≤ kr := le2
      rw [List.length_map] at le2
      exact hcalm (by omega) _ (S2.trans s3)
end
end K5
set_option Elab.async false
set_option linter.all false
set_option maxRecDepth 100000
set_option maxHeartbeats 4000000
namespace K5
open PySem L2
local macro_rules | `(tactic| walk_at "rd1") => `(tactic| first
  | refine ⟨_, _, rfl, rfl, ?_⟩
  | refine ⟨_, _, _, _, rfl, rfl, SqL.of (by assumption), rfl, ?_⟩
  | refine ⟨_, _, _, _, rfl, rfl, (by assumption), rfl, ?_⟩
  | refine .inl ⟨_, rfl, ?_⟩
  | refine ⟨_, rfl, ?_⟩
  | refine ⟨(by unfold CMul; omega), ?_⟩
  | refine ⟨(by unfold CPow; omega), ?_⟩
  | refine ⟨(by (try dsimp only); omega), ?_⟩
  | refine ⟨(by unfold CDiv; omega), ?_⟩
  | fail "rd1")
local macro_rules | `(tactic| walk_at "rd") => `(tactic| repeat' (walk_at "rd1"))
open Own
section
variable {P : Program} {w : World} {K : PySem.W.Frag} {mg : Str → Option Value} {base : Heap} {A : Ad}
def qL : Str := (Str.ofString "law" ++ ".<locals>.") ++ "<lambda>"
def T1 (P1 : Addr) : List (Addr × Str) := [(P1, qL)]
theorem inT1 {P1 : Addr} {p : Addr × Str} (h : p ∈ T1 P1) : p = (P1, qL) := by
  unfold T1 at h
  simpa using h
theorem uqL1 {P1 : Addr} : ∀ p ∈ T1 P1, p.1 = P1 → p.2 = qL := fun p hp e => by rw [inT1 hp]
theorem inL1 {P1 : Addr} : (P1, qL) ∈ T1 P1 := by unfold T1; simp
abbrev EchB (K : PySem.W.Frag) (CB CR : Addr) (Q : VK) : XK := fun cls d H' => (cls = .ref CB ∧ ∃ dd y, d = some dd ∧ H' dd = some (.xd [("name", y)]) ∧ ∀ t, H' t = none → Q (.ref t) (upd H' t (.tup [.str "row", y]))) ∨
  (cls = .ref CR ∧ ∃ (dd p : Addr) (l : List Str), d = some dd ∧ H' dd = some (.xd [("names", .ref p)]) ∧ SqL K H' p (l.map V.str) ∧ ∀ q, H' q = none → ∀ t, upd H' q (.lst (l.map V.str)) t = none → Q (.ref t) (upd (upd H' q (.lst (l.map V.str))) t (.tup [.str "round", .ref q])))
def TTb (K : PySem.W.Frag) (CB CR : Addr) : (XK → Hp → VK → Prop) → Hp → VK → Prop := fun tl H Q => tl (EchB K CB CR Q) H (fun v H1 => ∃ u, (some (some V.non) : Option (Option V)) = some (some u) ∧ Q u H1)
theorem lstOfK {X : Cx} {K : PySem.W.Frag} (h : X.K = K) : CallR X (.type "list") (fun xs H Q => ∃ p ys, xs = [V.ref p] ∧ (SqL K H p ys ∨ SqT K H p ys) ∧ ∀ l, H l = none → Q (.ref l) (upd H l (.lst ys))) := h ▸ call_list_of
theorem tried_gives {X : Cx} {q : Str} {cdg : Value} (T : Txt X.K X.mg A) :
    LamX.GivesTo X N__law_tried "_law_tried" (defScope s__law_tried) A.a__law_tried cdg (defBody s__law_tried) "_law_ask" q (TTb X.K A.a_BadRow A.a_Round) := by
  intro f c' s H Q tl act hc h
  refine ⟨_, pss_cons (ps_set (i := 1) sc__law_tried.nd rfl (Or.inl rfl) pe_non) (pss_cons (Own.ps_clauses
      (tb := fun (W : WX) D σ H => ∃ Ech : XK, (∀ (cls : Value) (d : Option Addr) (σ' : St) (H' : Hp), Ech cls d H' → σ'.length = 3 → W cls d σ' H') ∧ σ[0]? = some (some (.ref f)) ∧ H c' = some (LamX.CodeO c' q) ∧ tl Ech H fun v H1 => D.nx σ H1)
      rfl rfl sc__law_tried.nd takes0 (fun W pn xe tk _ => ?_)
      (.named (i := 2) rfl rfl ⟨rfl, by decide, .inl T.g_BadRow⟩ (fun a oe cls d pn hz hf => pss_one (ps_set (i := 1) sc__law_tried.nd rfl (Or.inl rfl) (pe_tup (pa_cons pe_str (pa_cons (pe_xf T.xfBr T.nBr hz hf (pv 2)) pa_nil)))))
        (.named (i := 2) rfl rfl ⟨rfl, by decide, .inl T.g_Round⟩ (fun a oe cls d pn hz hf => pss_one (ps_set (i := 1) sc__law_tried.nd rfl (Or.inl rfl) (pe_tup (pa_cons pe_str (pa_cons (pe_callTy (lstOfK (K := X.K) rfl) (by rfl) T.list (by decide +kernel) (pa_cons (pe_xf T.xfRo T.nRo hz hf (pv 2)) pa_nil)) pa_nil))))) .nil))) (pss_one (ps_ret (pv 1)))), ?_⟩
  · refine ⟨fun pins s' σ H' D I h' => ?_⟩
    obtain ⟨Ech, hW, h1, h2, h3⟩ := h'
    have hp := fun p1 p2 => act (fun c d σ H => σ.length = 3 → W c d σ H) pn xe Ech p1 p2 (takes_len tk) hW
    exact PSs.run (pss_one (ps_expr (hp _ _))) pins s' σ H' D I ⟨h1, h2, h3⟩
  · refine ⟨EchB X.K A.a_BadRow A.a_Round Q, ?_, rfl, hc, h⟩
    rintro cls d σ' H' (⟨rfl, dd, y, rfl, hdd, k⟩ | ⟨rfl, dd, p, l, rfl, hdd, hp, k⟩) hl
    · obtain ⟨x0, x1, x2, rfl⟩ := three hl
      refine ⟨true, T.eBr, fun _ a ha => ?_, fun z => nomatch z⟩
      exact ⟨_, rfl, rfl, rfl, dd, _, y, rfl, hdd, rfl, by show 2 ≤ sizeLine; decide, fun t ht => ⟨_, rfl, k t ht⟩⟩
    · obtain ⟨x0, x1, x2, rfl⟩ := three hl
      refine ⟨false, T.eRB, (fun z => nomatch z), fun _ => ⟨true, T.eRo, fun _ a ha => ?_, fun z => nomatch z⟩⟩
      refine ⟨_, rfl, rfl, rfl, dd, _, .ref p, rfl, hdd, rfl, p, _, rfl, .inl hp, fun q nq => ?_⟩
      exact ⟨by show 2 ≤ sizeLine; decide, fun t ht => ⟨_, rfl, k q nq t ht⟩⟩
end
end K5
set_option Elab.async false
set_option linter.all false
set_option maxRecDepth 100000
set_option maxHeartbeats 4000000
namespace K5
open PySem L2
local macro_rules | `(tactic| walk_at "rd1") => `(tactic| first
  | refine ⟨_, _, rfl, rfl, ?_⟩
  | refine ⟨_, _, _, _, rfl, rfl, SqL.of (by assumption), rfl, ?_⟩
  | refine ⟨_, _, _, _, rfl, rfl, (by assumption), rfl, ?_⟩
  | refine .inl ⟨_, rfl, ?_⟩
  | refine ⟨_, rfl, ?_⟩
  | refine ⟨(by unfold CMul; omega), ?_⟩
  | refine ⟨(by unfold CPow; omega), ?_⟩
  | refine ⟨(by (try dsimp only); omega), ?_⟩
  | refine ⟨(by unfold CDiv; omega), ?_⟩
  | fail "rd1")
local macro_rules | `(tactic| walk_at "rd") => `(tactic| repeat' (walk_at "rd1"))
open Own
section
variable {P : Program} {w : World} {K : PySem.W.Frag} {mg : Str → Option Value} {base : Heap} {A : Ad}
inductive OkV : PyData → Prop
  | str (s : Str) (h : PyData.strOk s = true) : OkV (.str s)
  | non : OkV .none
  | five : OkV (.int 5)
  | lst : OkV (.list [])
  | tup : OkV (.tuple [.str "clock", .int 0])
  | tru : OkV (.bool true)
theorem OkV.sh {d : PyData} (h : OkV d) : SeqAt.shaped d = true := by
  cases h with
  | str s h => simp [SeqAt.shaped, PyData.canLay0, PyData.depth, h]
  | non => decide +kernel
  | five => decide +kernel
  | lst => decide +kernel
  | tup => decide +kernel
  | tru => decide +kernel
/-- a key that is no name -/
inductive OddK : MK → Prop
  | clock : OddK (.inl "clock")
  | empty : OddK (.inl "")
  | big : OddK (.inl "A")
  | five : OddK (.inr (.inl (some 5)))
  | non : OddK (.inr (.inl none))
  | tup : OddK (.inr (.inr [.inr "a"]))
theorem OddK.no {k : MK} (h : OddK k) : nmK k = false := by cases h <;> decide +kernel
theorem OddK.kw {k : MK} (h : OddK k) : (kdM k).depth < 2 ∧ wid (kdM k) = true ∧ SeqAt.shaped (kdM k) = true ∧ ∀ s, k = .inl s → s.length ≤ 1000 := by
  cases h with
  | clock => exact ⟨by decide +kernel, by decide +kernel, by decide +kernel, fun s e => by cases e; decide +kernel⟩
  | empty => exact ⟨by decide +kernel, by decide +kernel, by decide +kernel, fun s e => by cases e; decide +kernel⟩
  | big => exact ⟨by decide +kernel, by decide +kernel, by decide +kernel, fun s e => by cases e; decide +kernel⟩
  | five => exact ⟨by decide +kernel, by decide +kernel, by decide +kernel, fun s e => by cases e⟩
  | non => exact ⟨by decide +kernel, by decide +kernel, by decide +kernel, fun s e => by cases e⟩
  | tup => exact ⟨by decide +kernel, by decide +kernel, by decide +kernel, fun s e => by cases e⟩
theorem OddK.nt {k : MK} (h : OddK k) {es : List PyData} (e : kdM k = .tuple es) : es.length = 1 := by
  cases h <;> cases e
  rfl
/-- names, and at most one key that is none -/
def keysOf (ns : List Str) (ko : Option MK) : List MK := ns.map Sum.inl ++ ko.toList
structure KyOk (ns : List Str) (ko : Option MK) : Prop where
  nd : ns.Nodup
  nm : ∀ n ∈ ns, Nm n ∧ PyData.strOk n = true
  odd : ∀ k ∈ ko, OddK k
  len : ns.length ≤ 16
theorem nm_len {s : Str} (h : Nm s) : s.length ≤ 1000 := Nat.le_trans h.most (by decide)
theorem kdM_bool (k : MK) : isBD (kdM k) = false := by
  rcases k with s | (_ | i) | ks <;> rfl
theorem KyOk.mem {ns : List Str} {ko : Option MK} (h : KyOk ns ko) {k : MK} (m : k ∈ keysOf ns ko) : (∃ n ∈ ns, k = .inl n) ∨ OddK k := by
  rcases List.mem_append.mp m with m | m
  · obtain ⟨n, q, rfl⟩ := List.mem_map.mp m
    exact .inl ⟨n, q, rfl⟩
  · exact .inr (h.odd k (Option.mem_toList.mp m))
theorem strOk_sh {s : Str} (h : PyData.strOk s = true) : SeqAt.shaped (.str s) = true := by simp [SeqAt.shaped, PyData.canLay0, PyData.depth, h]
theorem KyOk.kw {ns : List Str} {ko : Option MK} (h : KyOk ns ko) {k : MK} (m : k ∈ keysOf ns ko) : (kdM k).depth < 2 ∧ wid (kdM k) = true ∧ SeqAt.shaped (kdM k) = true ∧ ∀ s, k = .inl s → s.length ≤ 1000 := by
  rcases h.mem m with ⟨n, q, rfl⟩ | q
  · exact ⟨by simp [kdM, PyData.depth], rfl, strOk_sh (h.nm n q).2, fun s e => by cases e; exact nm_len (h.nm n q).1⟩
  · exact q.kw
theorem KyOk.nodup {ns : List Str} {ko : Option MK} (h : KyOk ns ko) : (keysOf ns ko).Nodup := by
  refine List.nodup_append.mpr ⟨List.pairwise_map.mpr (h.nd.imp fun n e => n (Sum.inl.inj e)), by cases ko <;> simp, fun a ha b hb e => ?_⟩
  obtain ⟨n, q, rfl⟩ := List.mem_map.mp ha
  have o := (h.odd b (Option.mem_toList.mp hb)).no
  rw [← e] at o
  rw [show nmK (.inl n) = nmB n from rfl, nm_nmB (h.nm n q).1] at o
  cases o
theorem KyOk.len2 {ns : List Str} {ko : Option MK} (h : KyOk ns ko) : (keysOf ns ko).length ≤ 17 := by
  have := h.len
  unfold keysOf
  rw [List.length_append, List.length_map]
  cases ko <;> simp <;> omega
theorem KyOk.ask {ns : List Str} {ko : Option MK} (h : KyOk ns ko) {d : PyData} (o : OkV d) : AskK d (keysOf ns ko) := by
  refine ⟨o.sh, fun k m => (h.kw m).2.2.1, fun k m ds es e1 e2 => ?_, Nat.le_trans h.len2 (by decide)⟩
  rcases h.mem m with ⟨n, q, rfl⟩ | q
  · cases e2
  · rw [q.nt e2]
    cases o <;> cases e1
    decide
theorem eqv_sk (s : Str) (k : MK) : PyData.eqv (.str s) (kdM k) = decide (k = .inl s) := by
  rcases k with t | (_ | i) | ks
  · rw [show kdM (.inl t) = .str t from rfl, eqv_ss]
    by_cases c : s = t
    · rw [decide_eq_true c, decide_eq_true (by rw [c])]
    · rw [decide_eq_false c, decide_eq_false fun e => c (Sum.inl.inj e).symm]
  · simp [kdM, PyData.eqv]
  · simp [kdM, PyData.eqv]
  · simp [kdM, PyData.eqv]
/-- the program's look and the law's are the same -/
theorem hook_eq {ns : List Str} {ko : Option MK} {d : PyData} (o : OkV d) (h : ∀ k ∈ ko, (∀ s, k ≠ .inl s) → PyData.eqv d (kdM k) = false) : hookB d (keysOf ns ko) = lawH d (keysOf ns ko) := by
  have al : ∀ k, alD d (kdM k) = (!isBD d && PyData.eqv d (kdM k)) := fun k => by
    unfold alD
    rw [kdM_bool]
    cases isBD d <;> rfl
  unfold hookB
  rw [show (fun k => alD d (kdM k)) = fun k => (!isBD d && PyData.eqv d (kdM k)) from funext al]
  have non : (∀ s, PyData.eqv d (.str s) = false) → (PyData.eqv d (.str "clock") || (keysOf ns ko).any fun k => (!isBD d && PyData.eqv d (kdM k))) = false := fun z => by
    rw [z, Bool.false_or, List.any_eq_false]
    intro k m
    have : PyData.eqv d (kdM k) = false := by
      rcases List.mem_append.mp m with m | m
      · obtain ⟨n, _, rfl⟩ := List.mem_map.mp m
        exact z n
      · rcases k with s | k
        · exact z s
        · exact h _ (Option.mem_toList.mp m) fun s e => nomatch e
    rw [this]
    simp
  cases o with
  | str s hs =>
    unfold lawH
    dsimp only
    rw [eqv_ss]
    congr 1
    refine congrArg (List.any _) (funext fun k => ?_)
    rw [eqv_sk]
    rfl
  | non => exact non fun s => by simp [PyData.eqv]
  | five => exact non fun s => by simp [PyData.eqv]
  | lst => exact non fun s => by simp [PyData.eqv]
  | tup => exact non fun s => by simp [PyData.eqv]
  | tru => exact non fun s => by simp [PyData.eqv]
theorem mk_same {G : Hp} {p dx C : Addr} (np : G p = none) (nd : G dx = none) : Same G (upd (upd G dx (.own p)) p (.ins C dx [])) := fun b u e => by rw [upd_ne (ne_of_none e np), upd_ne (ne_of_none e nd)]; exact e
theorem sd_same {H H' : Hp} {n : Nat} {x y : V} (s : Same H H') (h : SD K n H x y) : SD K n H' x y := sd_kept (same_kept s) (fun a e => s _ _ e) h
theorem ra_row {CB CR : Addr} {G G1 : Hp} {x : V} {Q : VK} (s0 : Same G G1) (kk : ∀ t y H', Same G H' → H' t = some (.tup [.str "row", y]) → SD K 2 H' x y → Q (.ref t) H') : RaK K CB x G1 (EchB K CB CR Q) := fun y dd H' s e sd =>
  .inl ⟨rfl, dd, y, rfl, e, fun t nt => kk t y _ (s0.trans (s.trans (Same.new nt))) upd_same (sd_same (Same.new nt) sd)⟩
theorem ra_round {CB CR : Addr} {G G1 : Hp} {l : List Str} {Q : VK} (s0 : Same G G1) (kk : ∀ t q H', Same G H' → H' t = some (.tup [.str "round", .ref q]) → H' q = some (.lst (l.map V.str)) → Q (.ref t) H') : RaL K CR l G1 (EchB K CB CR Q) := fun p dd H' s e hp =>
  .inr ⟨rfl, dd, p, l, rfl, e, hp, fun q nq t nt => kk t q _ (s0.trans (s.trans ((Same.new nq).trans (Same.new nt)))) upd_same (Same.new nt _ _ upd_same)⟩
theorem mkh_row {CB CR C r : Addr} {G : Hp} {xs : List (MK × V × V)} {dv : MK → PyData} {k : Nat} {z : MK × V × V} {Q Q' : VK} (hr : G r = some (MxO P w r xs)) (O : OdR K G xs dv) (ask : ∀ q ∈ xs, AskK (dv q.1) (xs.map (·.1))) (good : ∀ i q, i < k → xs[i]? = some q → (nmK q.1 && hookB (dv q.1) (xs.map (·.1))) = true)
    (hz : xs[k]? = some z) (bad : (nmK z.1 && hookB (dv z.1) (xs.map (·.1))) = false) (kk : ∀ t y H', Same G H' → H' t = some (.tup [.str "row", y]) → SD K 2 H' z.2.1 y → Q (.ref t) H') :
    ∀ p dx, G p = none → G dx = none → dx ≠ p → spHInitX P w K CB CR [.ref p, .ref r] (upd (upd G dx (.own p)) p (.ins C dx [])) Q' (EchB K CB CR Q) := fun p dx np nd _ => by
  have sM := mk_same (C := C) np nd
  exact ⟨p, r, rfl, .inl ⟨r, xs, dv, k, z, rfl, sM _ _ hr, O.kept (same_kept sM), ask, good, hz, bad, ra_row sM kk⟩⟩
theorem mkh_round {CB CR C r : Addr} {G : Hp} {ns ys : List Str} {hk : Str → Str} {k : Nat} {z : Str} {l : List Str} {Q Q' : VK} (hr : G r = some (.dK (kvF ns fun n => .str (hk n)))) (nm : ∀ n ∈ ns, Nm n) (R : RdOk ns ys hk k z l)
    (kk : ∀ t q H', Same G H' → H' t = some (.tup [.str "round", .ref q]) → H' q = some (.lst (l.map V.str)) → Q (.ref t) H') :
    ∀ p dx, G p = none → G dx = none → dx ≠ p → spHInitX P w K CB CR [.ref p, .ref r] (upd (upd G dx (.own p)) p (.ins C dx [])) Q' (EchB K CB CR Q) := fun p dx np nd _ => by
  have sM := mk_same (C := C) np nd
  exact ⟨p, r, rfl, .inr ⟨ns, ys, hk, k, z, l, sM _ _ hr, nm, R, ra_round sM kk⟩⟩
theorem mkb_row {CB CR C r : Addr} {G : Hp} {xs : List (MK × V × V)} {eb : MK → Bool} {k : Nat} {z : MK × V × V} {Q Q' : VK} (hr : G r = some (MxO P w r xs)) (O : OdK G xs) (ents : ∀ q ∈ xs, EntV K G q.2.2 (xs.map (·.1)) (eb q.1)) (good : ∀ i q, i < k → xs[i]? = some q → (nmK q.1 && eb q.1) = true)
    (hz : xs[k]? = some z) (bad : (nmK z.1 && eb z.1) = false) (kk : ∀ t y H', Same G H' → H' t = some (.tup [.str "row", y]) → SD K 2 H' z.2.1 y → Q (.ref t) H') :
    ∀ p dx, G p = none → G dx = none → dx ≠ p → spBInitX P w K CB CR [.ref p, .ref r] (upd (upd G dx (.own p)) p (.ins C dx [])) Q' (EchB K CB CR Q) := fun p dx np nd _ => by
  have sM := mk_same (C := C) np nd
  exact ⟨p, r, rfl, .inl ⟨r, xs, eb, k, z, rfl, sM _ _ hr, O.kept (same_kept sM), fun q m => (ents q m).up sM, good, hz, bad, ra_row sM kk⟩⟩
theorem mkb_round {CB CR C r : Addr} {G : Hp} {kvs : List (Key × V)} {ns ys : List Str} {hk : Str → Str} {wt : Str → Int} {k : Nat} {z : Str} {l : List Str} {Q Q' : VK} (hr : G r = some (.dK kvs)) (hP : Pr2 K G ns (fun n => .str (hk n)) (fun n => .int (wt n)) kvs) (nm : ∀ n ∈ ns, Nm n ∧ 0 ≤ wt n) (R : RdOk ns ys hk k z l)
    (kk : ∀ t q H', Same G H' → H' t = some (.tup [.str "round", .ref q]) → H' q = some (.lst (l.map V.str)) → Q (.ref t) H') :
    ∀ p dx, G p = none → G dx = none → dx ≠ p → spBInitX P w K CB CR [.ref p, .ref r] (upd (upd G dx (.own p)) p (.ins C dx [])) Q' (EchB K CB CR Q) := fun p dx np nd _ => by
  have sM := mk_same (C := C) np nd
  exact ⟨p, r, rfl, .inr ⟨kvs, ns, ys, hk, wt, k, z, l, sM _ _ hr, hP.up sM, nm, R, ra_round sM kk⟩⟩
/-- a dict of rows: of names alone, or one of keys of any sort -/
def RowAt (P : Program) (w : World) (H : Hp) (r : Addr) (xs : List (MK × V × V)) : Prop := H r = some (MxO P w r xs) ∨ ∃ m : List (Str × V), H r = some (.dK (m.map fun q => (.inr q.1, q.2))) ∧ xs = m.map fun q => (.inl q.1, .str q.1, q.2)
theorem mdic_strs {H : Hp} {r : Addr} {o : HO} {m : List (Str × V)} (h : MDic P w (upd H r o) r (m.map fun q => (.inl q.1, q.2))) : o = MxO P w r (m.map fun q => ((.inl q.1 : MK), V.str q.1, q.2)) := by
  obtain ⟨xs, h1, h2, h3⟩ := h.ex
  rw [upd_same] at h1
  rw [Option.some.inj h1]
  congr 1
  clear h1 h
  induction xs generalizing m with
  | nil => cases m with
    | nil => rfl
    | cons a b => cases h3
  | cons x xs ih => cases m with
    | nil => cases h3
    | cons a b =>
      rw [List.map_cons, List.map_cons] at h3
      obtain ⟨e1, e2⟩ := List.cons.inj h3
      rw [List.map_cons, ih (fun y hy => h2 y (.tail _ hy)) e2]
      congr 1
      have k := h2 x (.head _)
      obtain ⟨x1, x2, x3⟩ := x
      have e3 := congrArg Prod.fst e1
      have e4 := congrArg Prod.snd e1
      dsimp only at e3 e4
      unfold KeyAt at k
      dsimp only at k
      rw [← e3] at k
      rw [← e3, ← e4, show x2 = .str a.1 from k]
theorem row_mx {σ : St} {H : Hp} {i : Nat} {r : Addr} {xs : List (MK × V × V)} {Q : VK} (e : σ[i]? = some (some (.ref r))) (h : RowAt P w H r xs) (k : ∀ H', SeqKept H H' → (∀ b u, H b = some u → b ≠ r → H' b = some u) → (∀ b, H b = none → H' b = none) → H' r = some (MxO P w r xs) → Q (.ref r) H') :
    tVar i σ H Q ∨ tMix P w (tVar i) σ H Q := by
  rcases h with h | ⟨m, h, rfl⟩
  · exact .inl ⟨_, e, k H (fun _ _ e _ => e) (fun _ _ e _ => e) (fun _ e => e) h⟩
  · refine .inr ⟨_, e, r, _, rfl, h, m, rfl, fun o hM => ?_⟩
    rw [mdic_strs hM]
    exact k _ (kept_upd h rfl) (fun b u e n => by rw [upd_ne n]; exact e) (fun b e => by rw [upd_ne (fun z => by rw [z, h] at e; cases e)]; exact e) upd_same
theorem row_dk {σ : St} {H : Hp} {i : Nat} {r : Addr} {Q : VK} (e : σ[i]? = some (some (.ref r))) (k : Q (.ref r) H) : tVar i σ H Q ∨ tMix P w (tVar i) σ H Q := .inl ⟨_, e, k⟩
end
end K5
set_option Elab.async false
set_option linter.all false
set_option maxRecDepth 100000
set_option maxHeartbeats 4000000
namespace K5
open PySem L2
local macro_rules | `(tactic| walk_at "rd1") => `(tactic| first
  | refine ⟨_, _, rfl, rfl, ?_⟩
  | refine ⟨_, _, _, _, rfl, rfl, SqL.of (by assumption), rfl, ?_⟩
  | refine ⟨_, _, _, _, rfl, rfl, (by assumption), rfl, ?_⟩
  | refine .inl ⟨_, rfl, ?_⟩
  | refine ⟨_, rfl, ?_⟩
  | refine ⟨(by unfold CMul; omega), ?_⟩
  | refine ⟨(by unfold CPow; omega), ?_⟩
  | refine ⟨(by (try dsimp only); omega), ?_⟩
  | refine ⟨(by unfold CDiv; omega), ?_⟩
  | fail "rd1")
local macro_rules | `(tactic| walk_at "rd") => `(tactic| repeat' (walk_at "rd1"))
open Own
section
variable {P : Program} {w : World} {K : PySem.W.Frag} {mg : Str → Option Value} {base : Heap} {A : Ad}
theorem sle_tot (x y : Str) : sle x y ∨ sle y x := (Classical.em (slt y x)).elim (fun h => .inr (sle_of_lt h)) .inl
theorem ins_ex (x : Str) : ∀ ys : List Str, ys.Pairwise sle → ∃ zs : List Str, zs.Perm (x :: ys) ∧ zs.Pairwise sle
  | [], _ => ⟨[x], .refl _, List.pairwise_singleton _ _⟩
  | y :: ys, h => by
    obtain ⟨h1, h2⟩ := List.pairwise_cons.mp h
    rcases sle_tot x y with c | c
    · exact ⟨x :: y :: ys, .refl _, List.pairwise_cons.mpr ⟨fun z m => (List.mem_cons.mp m).elim (fun e => e ▸ c) fun m => sle_trans c (h1 z m), h⟩⟩
    · obtain ⟨zs, p, q⟩ := ins_ex x ys h2
      refine ⟨y :: zs, (List.Perm.cons y p).trans (List.Perm.swap x y ys), List.pairwise_cons.mpr ⟨fun z m => ?_, q⟩⟩
      exact (List.mem_cons.mp (p.mem_iff.mp m)).elim (fun e => e ▸ c) (h1 z)
theorem asc_ex : ∀ ns : List Str, ∃ ys : List Str, ys.Perm ns ∧ ys.Pairwise sle
  | [] => ⟨[], .refl _, .nil⟩
  | n :: ns => by
    obtain ⟨ys, p, q⟩ := asc_ex ns
    obtain ⟨zs, p2, q2⟩ := ins_ex n ys q
    exact ⟨zs, p2.trans (List.Perm.cons n p), q2⟩
theorem first_no {α : Type} (p : α → Bool) : ∀ xs : List α, (∀ q ∈ xs, p q = true) ∨ ∃ (k : Nat) (z : α), (∀ (i : Nat) (q : α), i < k → xs[i]? = some q → p q = true) ∧ xs[k]? = some z ∧ p z = false
  | [] => .inl fun _ m => nomatch m
  | x :: xs => by
    cases c : p x with
    | false => exact .inr ⟨0, x, fun i q h => absurd h (Nat.not_lt_zero _), rfl, c⟩
    | true =>
      rcases first_no p xs with h | ⟨k, z, h1, h2, h3⟩
      · exact .inl fun q m => (List.mem_cons.mp m).elim (fun e => e ▸ c) (h q)
      · exact .inr ⟨k + 1, z, fun i q lt e => by
          cases i with
          | zero => cases e; exact c
          | succ i => exact h1 i q (by omega) e, h2, h3⟩
theorem first_some {α β : Type} (f : α → Option β) (xs : List α) : (∀ q ∈ xs, f q = none) ∨ ∃ (k : Nat) (z : α) (l : β), (∀ (i : Nat) (q : α), i < k → xs[i]? = some q → f q = none) ∧ xs[k]? = some z ∧ f z = some l := by
  rcases first_no (fun x => (f x).isNone) xs with h | ⟨k, z, h1, h2, h3⟩
  · exact .inl fun q m => Option.isNone_iff_eq_none.mp (h q m)
  · cases c : f z with
    | none => rw [c] at h3; cases h3
    | some l => exact .inr ⟨k, z, l, fun i q lt e => Option.isNone_iff_eq_none.mp (h1 i q lt e), h2, c⟩
/-- keys with what they hang on -/
structure Kx (ks : List MK) (ns : List Str) (ko : Option MK) (dv : MK → PyData) : Prop where
  ky : KyOk ns ko
  e : ks = keysOf ns ko
  ok : ∀ k ∈ ks, OkV (dv k)
  /-- none is like a key that is no text -/
  no : ∀ k ∈ ko, (∀ s, k ≠ .inl s) → ∀ z ∈ ks, PyData.eqv (dv z) (kdM k) = false
theorem Kx.hook {ks : List MK} {ns : List Str} {ko : Option MK} {dv : MK → PyData} (h : Kx ks ns ko dv) {k : MK} (m : k ∈ ks) : hookB (dv k) ks = lawH (dv k) ks := by
  have := hook_eq (ns := ns) (ko := ko) (h.ok k m) fun z mz ne => h.no z mz ne k m
  rwa [← h.e] at this
/-- what is told of rows, some of which are bad -/
inductive Told7 (ks : List MK) (ns ys : List Str) (ko : Option MK) (dv : MK → PyData) (bd : MK → Bool) : Prop
  | row (k : Nat) (z : MK) (good : ∀ (i : Nat) (q : MK), i < k → ks[i]? = some q → (nmK q && (lawH (dv q) ks && !bd q)) = true) (at_ : ks[k]? = some z) (bad : (nmK z && (lawH (dv z) ks && !bd z)) = false)
  | round (no : ko = none) (hk : Str → Str) (all : ∀ q ∈ ks, (nmK q && (lawH (dv q) ks && !bd q)) = true) (hd : ∀ n ∈ ns, dv (.inl n) = .str (hk n)) (k : Nat) (z : Str) (l : List Str) (R : RdOk ns ys hk k z l)
  | none (no : ko = none) (hk : Str → Str) (all : ∀ q ∈ ks, (nmK q && (lawH (dv q) ks && !bd q)) = true) (hd : ∀ n ∈ ns, dv (.inl n) = .str (hk n)) (ho : HkOk ns hk) (no2 : ∀ n ∈ ns, rndOf hk ns.length n = none)
theorem nmK_inl {k : MK} (h : nmK k = true) : ∃ s, k = .inl s := by
  rcases k with s | (_ | i) | ks
  · exact ⟨s, rfl⟩
  · cases h
  · cases h
  · cases h
theorem rnd_len {hk : Str → Str} {f : Nat} {nm : Str} {l : List Str} (h : rndOf hk f nm = some l) : l.length ≤ f + 1 := by
  unfold rndOf at h
  obtain ⟨j, h1, h2, _⟩ := rnd_at hk nm f (hk nm) [nm]
  rw [h2] at h
  dsimp only at h
  split at h
  · rw [← Option.some.inj h, List.length_append, List.length_map, List.length_range, List.length_singleton]
    omega
  · cases h
theorem told7 {ks : List MK} {ns ys : List Str} {ko : Option MK} {dv : MK → PyData} (h : Kx ks ns ko dv) (bd : MK → Bool) (py : ys.Perm ns) (asc : ys.Pairwise sle) : Told7 ks ns ys ko dv bd := by
  rcases first_no (fun k => nmK k && (lawH (dv k) ks && !bd k)) ks with al | ⟨k, z, h1, h2, h3⟩
  · have hno : ko = none := by
      cases c : ko with
      | none => rfl
      | some k =>
        have m : k ∈ ks := by rw [h.e, c]; exact List.mem_append_right _ (List.mem_singleton.mpr rfl)
        have a := al k m
        rw [(h.ky.odd k (by rw [c]; exact rfl)).no, Bool.false_and] at a
        cases a
    have hks : ks = ns.map Sum.inl := by rw [h.e, hno]; exact List.append_nil _
    have key : ∀ n ∈ ns, ∃ s, dv (.inl n) = .str s ∧ (s = "clock" ∨ s ∈ ns) := fun n m => by
      have a := al (.inl n) (by rw [hks]; exact List.mem_map.mpr ⟨n, m, rfl⟩)
      obtain ⟨_, a⟩ := Bool.and_eq_true_iff.mp a
      obtain ⟨a, _⟩ := Bool.and_eq_true_iff.mp a
      cases d : dv (.inl n) with
      | str s =>
        refine ⟨s, rfl, ?_⟩
        rw [d] at a
        unfold lawH at a
        dsimp only at a
        rcases Bool.or_eq_true_iff.mp a with a | a
        · exact .inl (of_decide_eq_true a)
        · obtain ⟨k, mk, e⟩ := List.any_eq_true.mp a
          have e := of_decide_eq_true e
          rw [hks] at mk
          obtain ⟨s2, ms, e2⟩ := List.mem_map.mp mk
          rw [e] at e2
          exact .inr (by rw [← Sum.inl.inj e2]; exact ms)
      | _ => rw [d] at a; cases a
    obtain ⟨hk, hd⟩ : ∃ hk : Str → Str, ∀ n ∈ ns, dv (.inl n) = .str (hk n) := by
      refine ⟨fun n => match dv (.inl n) with | .str s => s | _ => "", fun n m => ?_⟩
      obtain ⟨s, e, _⟩ := key n m
      dsimp only
      rw [e]
    have ho : HkOk ns hk := ⟨fun m => (h.ky.nm _ m).1.noclock rfl, fun n m => by
      obtain ⟨s, e, o⟩ := key n m
      rw [hd n m] at e
      rw [PyData.str.inj e]; exact o⟩
    rcases first_some (rndOf hk ns.length) ys with no | ⟨k, z, l, h1, h2, h3⟩
    · exact .none hno hk al hd ho fun n m => no n (py.mem_iff.mpr m)
    · have nl := h.ky.len
      have := rnd_len h3
      exact .round hno hk al hd k z l ⟨h.ky.nd, ho, by omega, py, asc, h2, h1, h3, by omega⟩
  · exact .row k z h1 h2 h3
inductive Oc where
  | row (x : V) : Oc
  | round (l : List Str) : Oc
  | none : Oc
/-- what a tried one tells -/
def VT (K : PySem.W.Frag) (H : Hp) (v : V) : Oc → Prop
  | .row x => ∃ t y, v = .ref t ∧ H t = some (.tup [.str "row", y]) ∧ SD K 2 H x y
  | .round l => ∃ t q, v = .ref t ∧ H t = some (.tup [.str "round", .ref q]) ∧ H q = some (.lst (l.map V.str)) ∧ l.length ≤ 64
  | .none => v = .non
/-- what is due -/
def VU (H : Hp) (v : V) : Oc → Prop
  | .row x => ∃ t, v = .ref t ∧ H t = some (.tup [.str "row", x]) ∧ ∀ a, x = .ref a → ∃ ys, H a = some (.tup ys)
  | .round l => ∃ t q, v = .ref t ∧ H t = some (.tup [.str "round", .ref q]) ∧ H q = some (.lst (l.map V.str)) ∧ l.length ≤ 64
  | .none => v = .non
theorem VT.up {H H' : Hp} {v : V} {o : Oc} (h : VT K H v o) (s : Same H H') : VT K H' v o := by
  cases o with
  | row x => obtain ⟨t, y, e, q, d⟩ := h; exact ⟨t, y, e, s _ _ q, sd_up d s⟩
  | round l => obtain ⟨t, q, e, h1, h2, h3⟩ := h; exact ⟨t, q, e, s _ _ h1, s _ _ h2, h3⟩
  | none => exact h
theorem VT.kept {H H' : Hp} {v : V} {o : Oc} (h : VT K H v o) (s : SeqKept H H') (k : ∀ a, H a = some (.dK []) → H' a = some (.dK [])) : VT K H' v o := by
  cases o with
  | row x => obtain ⟨t, y, e, q, d⟩ := h; exact ⟨t, y, e, s _ _ q rfl, sd_kept s k d⟩
  | round l => obtain ⟨t, q, e, h1, h2, h3⟩ := h; exact ⟨t, q, e, s _ _ h1 rfl, s _ _ h2 rfl, h3⟩
  | none => exact h
theorem both_same {H : Hp} {v u : V} {o : Oc} (a : VT K H v o) (b : VU H u o) : ∃ d, Dp K H v d ∧ Dp K H u d ∧ d.depth < 3 ∧ wid d = true := by
  cases o with
  | row x =>
    obtain ⟨t, y, rfl, q, d⟩ := a
    obtain ⟨t2, rfl, q2, nd⟩ := b
    rcases d with ⟨d, h1, h2, h3, h4⟩ | ⟨a, b, rfl, _, h1, _⟩
    · refine ⟨.tuple [.str "row", d], .tup (SqT.of q) (.cons (.str _) (.cons h2 .nil)), .tup (SqT.of q2) (.cons (.str _) (.cons h1 .nil)), ?_, ?_⟩
      · simp only [PyData.depth, PyData.depthAll]; omega
      · simp only [wid, widAll, h4, List.length_cons, List.length_nil, Bool.and_true, Bool.true_and]
        exact decide_eq_true (by decide)
    · obtain ⟨ys, e⟩ := nd a rfl
      rw [e] at h1; cases h1
  | round l =>
    obtain ⟨t, q, rfl, h1, h2, h3⟩ := a
    obtain ⟨t2, q2, rfl, g1, g2, _⟩ := b
    refine ⟨.tuple [.str "round", .list (l.map .str)], .tup (SqT.of h1) (.cons (.str _) (.cons (.lst (SqL.of h2) (strs_dp l)) .nil)), .tup (SqT.of g1) (.cons (.str _) (.cons (.lst (SqL.of g2) (strs_dp l)) .nil)), ?_, ?_⟩
    · simp only [PyData.depth, PyData.depthAll, depth_strs]; omega
    · simp only [wid, widAll, wid_strs, List.length_map, List.length_cons, List.length_nil, Bool.and_true, Bool.true_and]
      rw [Bool.and_eq_true_iff]
      exact ⟨decide_eq_true (by decide), decide_eq_true (by omega)⟩
  | none => exact ⟨.none, a ▸ .non, b ▸ .non, by simp [PyData.depth], rfl⟩
end
end K5
set_option Elab.async false
set_option linter.all false
set_option maxRecDepth 100000
set_option maxHeartbeats 4000000
namespace K5
open PySem L2
local macro_rules | `(tactic| walk_at "rd1") => `(tactic| first
  | refine ⟨_, _, rfl, rfl, ?_⟩
  | refine ⟨_, _, _, _, rfl, rfl, SqL.of (by assumption), rfl, ?_⟩
  | refine ⟨_, _, _, _, rfl, rfl, (by assumption), rfl, ?_⟩
  | refine .inl ⟨_, rfl, ?_⟩
  | refine ⟨_, rfl, ?_⟩
  | refine ⟨(by unfold CMul; omega), ?_⟩
  | refine ⟨(by unfold CPow; omega), ?_⟩
  | refine ⟨(by (try dsimp only); omega), ?_⟩
  | refine ⟨(by unfold CDiv; omega), ?_⟩
  | fail "rd1")
local macro_rules | `(tactic| walk_at "rd") => `(tactic| repeat' (walk_at "rd1"))
open Own
section
variable {P : Program} {w : World} {K : PySem.W.Frag} {mg : Str → Option Value} {base : Heap} {A : Ad}
theorem code_ne_mx {P : Program} {w : World} {r : Addr} {q : Str} {xs : List (MK × V × V)} : MxO P w r xs ≠ LamX.CodeO r q := fun e => by
  have hz : (⟨Array.replicate r ⟨.none, .none, .plain, #[]⟩, {}⟩ : Heap).objs.size = r := Array.size_replicate
  have g : ((⟨Array.replicate r ⟨.none, .none, .plain, #[]⟩, {}⟩ : Heap).push ⟨.none, .none, .fields #[.none, .str q 0], #[]⟩).get? r = some ⟨.none, .none, .fields #[.none, .str q 0], #[]⟩ := by
    have := Heap.get?_push_size (⟨Array.replicate r ⟨.none, .none, .plain, #[]⟩, {}⟩ : Heap) (o := ⟨.none, .none, .fields #[.none, .str q 0], #[]⟩) rfl
    rwa [hz] at this
  generalize ((⟨Array.replicate r ⟨.none, .none, .plain, #[]⟩, {}⟩ : Heap).push ⟨.none, .none, .fields #[.none, .str q 0], #[]⟩) = h at g
  have e := congrFun (HO.ext.inj e) h
  have a : ∃ (oc : Obj) (vs : Array Value) (t : Tok), h.get? r = some oc ∧ oc.data = .fields vs ∧ vs[1]? = some (.str q t) := ⟨_, _, 0, g, rfl, rfl⟩
  rw [← e] at a
  obtain ⟨_, _, _, _, o, es, ep, _, h1, _, h2, _⟩ := a
  rw [g] at h1
  cases h1
  cases h2
/-- what is neither a list nor of the tables -/
structure NotSt (r : Addr) (o : HO) : Prop where
  l : ∀ xs, o ≠ .lst xs
  t : ∀ ps, o ≠ .tbl ps
  c : ∀ q, o ≠ LamX.CodeO r q
theorem notSt_dK {r : Addr} {kvs : List (Key × V)} : NotSt r (.dK kvs) := ⟨(fun _ z => nomatch z), (fun _ z => nomatch z), fun _ z => by unfold LamX.CodeO at z; cases z⟩
theorem notSt_frz {r : Addr} {od : Obj} {o : HO} : NotSt r (.frz od o) := ⟨(fun _ z => nomatch z), (fun _ z => nomatch z), fun _ z => by unfold LamX.CodeO at z; cases z⟩
theorem notSt_mx {r : Addr} {xs : List (MK × V × V)} : NotSt r (MxO P w r xs) := ⟨(fun _ z => nomatch z), (fun _ z => nomatch z), fun _ => code_ne_mx⟩
theorem tabs_but {Ts : List (Addr × Str)} {H H' : Hp} {r : Addr} {o : HO} (t : LamX.Tabs Ts H) (hr : H r = some o) (n : NotSt r o) (up : ∀ x u, H x = some u → x ≠ r → H' x = some u) : LamX.Tabs Ts H' := fun p hp => by
  obtain ⟨ps, h1, h2, h3⟩ := t p hp
  refine ⟨ps, up _ _ h1 fun e => ?_, h2, fun pos cv hc => ?_⟩
  · rw [e, hr] at h1; exact n.t _ (Option.some.inj h1)
  · obtain ⟨c2, e2, e3⟩ := h3 pos cv hc
    refine ⟨c2, e2, up _ _ e3 fun e => ?_⟩
    subst e
    rw [hr] at e3
    exact n.c _ (Option.some.inj e3)
/-- all but one thing stays -/
def But (r : Addr) (H H' : Hp) : Prop := ∀ x u, H x = some u → x ≠ r → H' x = some u
theorem But.of {r : Addr} {H H' : Hp} (s : Same H H') : But r H H' := fun _ _ e _ => s _ _ e
theorem But.trans {r : Addr} {H H1 H2 : Hp} (a : But r H H1) (b : But r H1 H2) : But r H H2 := fun x u e n => b x u (a x u e n) n
theorem But.upd {r : Addr} {H : Hp} {o : HO} : But r H (upd H r o) := fun x u e n => by rw [upd_ne n]; exact e
theorem But.kept {r : Addr} {H H' : Hp} {o : HO} (b : But r H H') (hr : H r = some o) (n : SeqO o = false) : SeqKept H H' := fun a u e q => b a u e fun z => by rw [z, hr] at e; cases e; rw [n] at q; cases q
theorem BdT.but {Ts : List (Addr × Str)} {st c : Addr} {b : Int} {H H' : Hp} {r : Addr} {o : HO} (B : BdT Ts st c b H) (hr : H r = some o) (n : NotSt r o) (up : But r H H') : BdT Ts st c b H' := by
  obtain ⟨cs, i, l, m, k, e1, e2, q⟩ := B.sta.ex
  have e3 := er_some e2
  exact ⟨⟨cs, i, l, m, k, up _ _ e1 fun z => by rw [z, hr] at e1; exact n.l _ (Option.some.inj e1), er_of e3.1 (up _ _ e3.2 fun z => by rw [z, hr] at e3; exact n.l _ (Option.some.inj e3.2)), q⟩, tabs_but B.tab hr n up⟩
theorem Sta.but {st c : Addr} {b : Int} {H H' : Hp} {r : Addr} {o : HO} (B : Sta H st c b) (hr : H r = some o) (n : NotSt r o) (up : But r H H') : Sta H' st c b := by
  obtain ⟨cs, i, l, m, k, e1, e2, q⟩ := B.ex
  have e3 := er_some e2
  exact ⟨cs, i, l, m, k, up _ _ e1 fun z => by rw [z, hr] at e1; exact n.l _ (Option.some.inj e1), er_of e3.1 (up _ _ e3.2 fun z => by rw [z, hr] at e3; exact n.l _ (Option.some.inj e3.2)), q⟩
/-- rows of names and at most one key that is none -/
structure Rr (P : Program) (w : World) (K : PySem.W.Frag) (H : Hp) (r : Addr) (xs : List (MK × V × V)) (ns : List Str) (ko : Option MK) (dv : MK → PyData) : Prop where
  at_ : RowAt P w H r xs
  O : OdR K H xs dv
  X : Kx (xs.map (·.1)) ns ko dv
theorem Rr.so {H : Hp} {r : Addr} {xs : List (MK × V × V)} {ns : List Str} {ko : Option MK} {dv : MK → PyData} (h : Rr P w K H r xs ns ko dv) : ∃ o, H r = some o ∧ NotSt r o ∧ SeqO o = false := by
  rcases h.at_ with e | ⟨m, e, _⟩
  · exact ⟨_, e, notSt_mx, rfl⟩
  · exact ⟨_, e, notSt_dK, rfl⟩
/-- the rows as one dict of mixed keys -/
theorem Rr.mx {σ : St} {H : Hp} {i : Nat} {r : Addr} {xs : List (MK × V × V)} {ns : List Str} {ko : Option MK} {dv : MK → PyData} {Q : VK} (h : Rr P w K H r xs ns ko dv) (e : σ[i]? = some (some (.ref r)))
    (k : ∀ H', But r H H' → H' r = some (MxO P w r xs) → OdR K H' xs dv → Q (.ref r) H') : tVar i σ H Q ∨ tMix P w (tVar i) σ H Q :=
  row_mx e h.at_ fun H' sk b _ e => k H' b e (h.O.kept sk)
end
end K5
set_option Elab.async false
set_option linter.all false
set_option maxRecDepth 100000
set_option maxHeartbeats 4000000
namespace K5
open PySem L2
local macro_rules | `(tactic| walk_at "rd1") => `(tactic| first
  | refine ⟨_, _, rfl, rfl, ?_⟩
  | refine ⟨_, _, _, _, rfl, rfl, SqL.of (by assumption), rfl, ?_⟩
  | refine ⟨_, _, _, _, rfl, rfl, (by assumption), rfl, ?_⟩
  | refine .inl ⟨_, rfl, ?_⟩
  | refine ⟨_, rfl, ?_⟩
  | refine ⟨(by unfold CMul; omega), ?_⟩
  | refine ⟨(by unfold CPow; omega), ?_⟩
  | refine ⟨(by (try dsimp only); omega), ?_⟩
  | refine ⟨(by unfold CDiv; omega), ?_⟩
  | fail "rd1")
local macro_rules | `(tactic| walk_at "rd") => `(tactic| repeat' (walk_at "rd1"))
open Own
section
variable {P : Program} {w : World} {K : PySem.W.Frag} {mg : Str → Option Value} {base : Heap} {A : Ad}
/-- what is told of rows, some of which are bad -/
inductive OcT (xs : List (MK × V × V)) (ns ys : List Str) (ko : Option MK) (dv : MK → PyData) (bd : MK → Bool) : Oc → Prop
  | row (k : Nat) (z : MK × V × V) (good : ∀ (i : Nat) (q : MK × V × V), i < k → xs[i]? = some q → (nmK q.1 && (lawH (dv q.1) (xs.map (·.1)) && !bd q.1)) = true) (at_ : xs[k]? = some z) (bad : (nmK z.1 && (lawH (dv z.1) (xs.map (·.1)) && !bd z.1)) = false) : OcT xs ns ys ko dv bd (.row z.2.1)
  | round (no : ko = none) (hk : Str → Str) (all : ∀ q ∈ xs, (nmK q.1 && (lawH (dv q.1) (xs.map (·.1)) && !bd q.1)) = true) (hd : ∀ n ∈ ns, dv (.inl n) = .str (hk n)) (k : Nat) (z : Str) (l : List Str) (R : RdOk ns ys hk k z l) : OcT xs ns ys ko dv bd (.round l)
  | none (no : ko = none) (hk : Str → Str) (all : ∀ q ∈ xs, (nmK q.1 && (lawH (dv q.1) (xs.map (·.1)) && !bd q.1)) = true) (hd : ∀ n ∈ ns, dv (.inl n) = .str (hk n)) (ho : HkOk ns hk) (no2 : ∀ n ∈ ns, rndOf hk ns.length n = none) : OcT xs ns ys ko dv bd .none
theorem oct_ex {xs : List (MK × V × V)} {ns ys : List Str} {ko : Option MK} {dv : MK → PyData} (h : Kx (xs.map (·.1)) ns ko dv) (bd : MK → Bool) (py : ys.Perm ns) (asc : ys.Pairwise sle) : ∃ o, OcT xs ns ys ko dv bd o := by
  have up : (∀ q ∈ xs.map (·.1), (nmK q && (lawH (dv q) (xs.map (·.1)) && !bd q)) = true) → ∀ q ∈ xs, (nmK q.1 && (lawH (dv q.1) (xs.map (·.1)) && !bd q.1)) = true := fun a q m => a q.1 (List.mem_map.mpr ⟨q, m, rfl⟩)
  cases told7 h bd py asc with
  | row k z good at_ bad =>
    rw [List.getElem?_map] at at_
    cases c : xs[k]? with
    | none => rw [c] at at_; cases at_
    | some z2 =>
      rw [c] at at_
      obtain rfl : z2.1 = z := Option.some.inj at_
      exact ⟨_, .row k z2 (fun i q lt e => good i q.1 lt (by rw [List.getElem?_map, e]; rfl)) c bad⟩
  | round no hk all hd k z l R => exact ⟨_, .round no hk (up all) hd k z l R⟩
  | none no hk all hd ho no2 => exact ⟨_, .none no hk (up all) hd ho no2⟩
theorem strs_of {G : Hp} {xs : List (MK × V × V)} {ns : List Str} {dv : MK → PyData} {hk : Str → Str} {vf : Str → V} (O : OdR K G xs dv) (ex : xs = ns.map fun n => (.inl n, .str n, vf n)) (hd : ∀ n ∈ ns, dv (.inl n) = .str (hk n)) : kvF ns vf = kvF ns fun n => .str (hk n) := by
  unfold kvF
  refine List.map_congr_left fun n m => ?_
  have := O.val (.inl n, .str n, vf n) (by rw [ex]; exact List.mem_map.mpr ⟨n, m, rfl⟩)
  rw [show dv (Prod.fst ((Sum.inl n : MK), V.str n, vf n)) = dv (.inl n) from rfl, hd n m] at this
  rw [show vf n = .str (hk n) from dpStrI this]
abbrev sHg (P : Program) (w : World) (K : PySem.W.Frag) (CH CB CR : Addr) : Sp := fun vs H Q E => spHInit CH vs H Q E ∨ spHInitX P w K CB CR vs H Q E
abbrev sBk (P : Program) (w : World) (K : PySem.W.Frag) (CH CB CR : Addr) : Sp := fun vs H Q E => spBInit K CH vs H Q E ∨ spBInitX P w K CB CR vs H Q E
abbrev tMv (P : Program) (w : World) (i : Nat) : TA := tCons (fun σ H Q => tVar i σ H Q ∨ tMix P w (tVar i) σ H Q) tNil
theorem hang7 {CB CR CH : Addr} {G : Hp} {σ : St} {i : Nat} {r : Addr} {xs : List (MK × V × V)} {ns ys : List Str} {ko : Option MK} {dv : MK → PyData} {oc : Oc} {Q : VK} (h : Rr P w K G r xs ns ko dv) (hd : ko = none → ∃ vf : Str → V, G r = some (.dK (kvF ns vf)) ∧ xs = ns.map fun n => (.inl n, .str n, vf n))
    (e : σ[i]? = some (some (.ref r))) (o : OcT xs ns ys ko dv (fun _ => false) oc) (kk : ∀ v H', But r G H' → RowAt P w H' r xs → VT K H' v oc → Q v H') :
    TTb K CB CR (fun E H' Q' => (fun E2 => tMake CH (sHg P w K CH CB CR) [] E2 (tMv P w i)) E σ H' Q') G Q := by
  have names : ∀ hk : Str → Str, ko = none → HkOk ns hk → ∀ n ∈ ns, Nm n ∧ PyData.strOk n = true := fun _ _ _ => h.X.ky.nm
  cases o with
  | row k z good at_ bad =>
    show tVar i σ G _ ∨ tMix P w (tVar i) σ G _
    refine h.mx e fun G2 bt hr2 O2 => ?_
    refine fun p dx n1 n2 n3 => Or.inr (mkh_row (k := k) (z := z) hr2 O2 (fun q m => ?_) (fun j q lt ej => ?_) at_ ?_ (fun t y H' s ht sd => kk _ _ (bt.trans (But.of s)) (.inl (s _ _ hr2)) ⟨t, y, rfl, ht, sd⟩) p dx n1 n2 n3)
    · have := h.X.ky.ask (h.X.ok q.1 (List.mem_map.mpr ⟨q, m, rfl⟩))
      rwa [← h.X.e] at this
    · have a := good j q lt ej
      rw [Bool.not_false, Bool.and_true] at a
      rw [h.X.hook (List.mem_map.mpr ⟨q, List.mem_of_getElem? ej, rfl⟩)]
      exact a
    · rw [Bool.not_false, Bool.and_true] at bad
      rw [h.X.hook (List.mem_map.mpr ⟨z, List.mem_of_getElem? at_, rfl⟩)]
      exact bad
  | round no hk all hd2 k z l R =>
    obtain ⟨vf, hr, ex⟩ := hd no
    rw [strs_of h.O ex hd2] at hr
    have ra : RowAt P w G r xs := h.at_
    refine .inl ⟨_, e, fun p dx n1 n2 n3 => Or.inr (mkh_round hr (fun n m => (h.X.ky.nm n m).1) R (fun t q H' s ht hq => kk _ _ (But.of s) ?_ ⟨t, q, rfl, ht, hq, R.ll⟩) p dx n1 n2 n3)⟩
    exact ra.imp (fun e => s _ _ e) fun ⟨m, e, z⟩ => ⟨m, s _ _ e, z⟩
  | none no hk all hd2 ho no2 =>
    obtain ⟨vf, hr, ex⟩ := hd no
    rw [strs_of h.O ex hd2] at hr
    have ra : RowAt P w G r xs := h.at_
    refine .inl ⟨_, e, fun p dx n1 n2 n3 => Or.inl (mk_hang (Q := fun _ H' => ∃ u, (some (some V.non) : Option (Option V)) = some (some u) ∧ Q u H') hr (rok_of ho h.X.ky.nd h.X.ky.nm (by have := h.X.ky.len; omega) no2) (fun p H' ys _ s _ _ _ => ⟨.non, rfl, kk _ _ (But.of s) ?_ rfl⟩) p dx n1 n2 n3)⟩
    exact ra.imp (fun e => s _ _ e) fun ⟨m, e, z⟩ => ⟨m, s _ _ e, z⟩
/-- what is due -/
theorem due7 {G : Hp} {r bl : Addr} {xs : List (MK × V × V)} {ns ys : List Str} {ko : Option MK} {dv : MK → PyData} {bvs : List V} {bds : List PyData} {oc : Oc} {Q : VK} {E : XK} (hr : G r = some (MxO P w r xs)) (O : OdR K G xs dv) (X : Kx (xs.map (·.1)) ns ko dv) (hbl : SqL K G bl bvs) (hbd : DpAll K G bvs bds) (shb : SeqAt.shaped (.list bds) = true)
    (py : ys.Perm ns) (asc : ys.Pairwise sle) (o : OcT xs ns ys ko dv (inD bds) oc) (kk : ∀ v H', Same G H' → VU H' v oc → Q v H') : spDue P w K [.ref r, .ref bl] G Q E := by
  have xl : xs.length ≤ 17 := by have := X.ky.len2; rwa [← X.e, List.length_map] at this
  have sh : ∀ z ∈ xs, SeqAt.shaped (dv z.1) = true := fun z m => (X.ok z.1 (List.mem_map.mpr ⟨z, m, rfl⟩)).sh
  refine ⟨r, bl, xs, dv, bvs, bds, rfl, hr, O, sh, hbl, hbd, shb, by omega, ?_⟩
  cases o with
  | row k z good at_ bad =>
    refine .inl ⟨k, z, good, at_, bad, fun t H' s ht => kk _ _ s ⟨t, rfl, ht, fun a ea => ?_⟩⟩
    have := O.key z (List.mem_of_getElem? at_)
    obtain ⟨m, y, v⟩ := z
    subst ea
    rcases m with c | (_ | c) | c
    · cases this
    · cases this
    · cases this
    · obtain ⟨a2, e2, e3⟩ := this
      cases e2
      exact ⟨_, s _ _ e3⟩
  | round no hk all hd k z l R =>
    have ek : xs.map (·.1) = ns.map Sum.inl := by rw [X.e, no]; exact List.append_nil _
    exact .inr ⟨ns, ys, hk, all, ek, hd, R.ho, R.nd, py, asc, .inr ⟨k, z, l, R.at_, R.no, R.so, fun t p H' s ht hp => kk _ _ s ⟨t, p, rfl, ht, hp, R.ll⟩⟩⟩
  | none no hk all hd ho no2 =>
    have ek : xs.map (·.1) = ns.map Sum.inl := by rw [X.e, no]; exact List.append_nil _
    exact .inr ⟨ns, ys, hk, all, ek, hd, ho, X.ky.nd, py, asc, .inl ⟨no2, fun H' s => kk _ _ s rfl⟩⟩
/-- what a wait may be -/
inductive WtV : PyData → Prop
  | int (i : Int) : WtV (.int i)
  | non : WtV .none
  | one : WtV (.str "1")
  | tru : WtV (.bool true)
  | lst : WtV (.list [])
/-- pairs of what keys hang on, and waits -/
structure Pp (P : Program) (w : World) (K : PySem.W.Frag) (H : Hp) (r : Addr) (xs : List (MK × V × V)) (ns : List Str) (ko : Option MK) (dv wv : MK → PyData) : Prop where
  at_ : (ko ≠ none ∧ H r = some (MxO P w r xs)) ∨ (ko = none ∧ ∃ vf : Str → V, H r = some (.dK (kvF ns vf)) ∧ xs = ns.map fun n => (.inl n, .str n, vf n))
  O : OdK H xs
  en : ∀ q ∈ xs, ∃ a u v, q.2.2 = .ref a ∧ SqT K H a [u, v] ∧ Dp K H u (dv q.1) ∧ Dp K H v (wv q.1)
  wt : ∀ q ∈ xs, WtV (wv q.1)
  X : Kx (xs.map (·.1)) ns ko dv
theorem book7 {CB CR CH : Addr} {G : Hp} {σ : St} {i : Nat} {r : Addr} {xs x0 : List (MK × V × V)} {ns ys : List Str} {ko : Option MK} {dv wv : MK → PyData} {bds : List PyData} {oc : Oc} {Q : VK} (h : Pp P w K G r xs ns ko dv wv) (e0 : x0.map (·.1) = xs.map (·.1)) (e02 : ∀ (k : Nat) (z z0 : MK × V × V), xs[k]? = some z → x0[k]? = some z0 → z.2.1 = z0.2.1)
    (hb : ∀ q ∈ xs, inD bds q.1 = !waitB (wv q.1)) (e : σ[i]? = some (some (.ref r))) (o : OcT x0 ns ys ko dv (inD bds) oc) (kk : ∀ v H', But r G H' → VT K H' v oc → Q v H') :
    TTb K CB CR (fun E H' Q' => (fun E2 => tMake CH (sBk P w K CH CB CR) [] E2 (tMv P w i)) E σ H' Q') G Q := by
  have at0 : ∀ {k : Nat} {z : MK × V × V}, xs[k]? = some z → ∃ z0, x0[k]? = some z0 ∧ z0.1 = z.1 ∧ z0.2.1 = z.2.1 := fun {k z} hz => by
    have a : (x0.map (·.1))[k]? = some z.1 := by rw [e0, List.getElem?_map, hz]; rfl
    rw [List.getElem?_map] at a
    cases c : x0[k]? with
    | none => rw [c] at a; cases a
    | some z0 =>
      rw [c] at a
      exact ⟨z0, rfl, Option.some.inj a, (e02 k z z0 hz c).symm⟩
  have at1 : ∀ {k : Nat} {z0 : MK × V × V}, x0[k]? = some z0 → ∃ z, xs[k]? = some z ∧ z0.1 = z.1 ∧ z0.2.1 = z.2.1 := fun {k z0} hz => by
    have a : (xs.map (·.1))[k]? = some z0.1 := by rw [← e0, List.getElem?_map, hz]; rfl
    rw [List.getElem?_map] at a
    cases c : xs[k]? with
    | none => rw [c] at a; cases a
    | some z =>
      rw [c] at a
      exact ⟨z, rfl, (Option.some.inj a).symm, (e02 k z z0 c hz).symm⟩
  have ent : ∀ {G2 : Hp}, SeqKept G G2 → ∀ q ∈ xs, EntV K G2 q.2.2 (xs.map (·.1)) (hookB (dv q.1) (xs.map (·.1)) && waitB (wv q.1)) := fun {G2} s q m => by
    obtain ⟨a, u, v, e1, e2, e3, e4⟩ := h.en q m
    have ak := h.X.ky.ask (h.X.ok q.1 (List.mem_map.mpr ⟨q, m, rfl⟩))
    rw [← h.X.e] at ak
    exact .inr (.inr ⟨a, u, v, _, _, e1, .inr (sqt_kept s e2), dp_kept s _ _ e3, dp_kept s _ _ e4, ak, rfl⟩)
  have tr : ∀ {q : MK × V × V}, q ∈ xs → (nmK q.1 && (hookB (dv q.1) (xs.map (·.1)) && waitB (wv q.1))) = (nmK q.1 && (lawH (dv q.1) (x0.map (·.1)) && !inD bds q.1)) := fun {q} m => by
    rw [hb q m, Bool.not_not, e0, h.X.hook (List.mem_map.mpr ⟨q, m, rfl⟩)]
  have wts : (∀ q ∈ x0, (nmK q.1 && (lawH (dv q.1) (x0.map (·.1)) && !inD bds q.1)) = true) → ∃ wt : Str → Int, ∀ n ∈ ns, wv (.inl n) = .int (wt n) ∧ 0 ≤ wt n := fun all => by
    have key : ∀ n ∈ ns, ∃ i, wv (.inl n) = .int i ∧ 0 ≤ i := fun n m => by
      have mx : (Sum.inl n : MK) ∈ xs.map (·.1) := by rw [h.X.e]; exact List.mem_append_left _ (List.mem_map.mpr ⟨n, m, rfl⟩)
      obtain ⟨q0, m0, e1⟩ := List.mem_map.mp (e0 ▸ mx)
      obtain ⟨q, m1, e2⟩ := List.mem_map.mp mx
      have a := all q0 m0
      obtain ⟨_, a⟩ := Bool.and_eq_true_iff.mp a
      obtain ⟨_, a⟩ := Bool.and_eq_true_iff.mp a
      rw [show q0.1 = q.1 from e1.trans e2.symm, hb q m1, Bool.not_not, show q.1 = .inl n from e2] at a
      cases c : wv (.inl n) with
      | int i => rw [c] at a; exact ⟨i, rfl, of_decide_eq_true a⟩
      | _ => rw [c] at a; cases a
    refine ⟨fun n => match wv (.inl n) with | .int i => i | _ => 0, fun n m => ?_⟩
    obtain ⟨i, e, q⟩ := key n m
    dsimp only
    rw [e]
    exact ⟨rfl, q⟩
  have prs : ∀ {vf : Str → V} {hk : Str → Str} {wt : Str → Int}, xs = (ns.map fun n => ((.inl n : MK), V.str n, vf n)) → (∀ n ∈ ns, dv (.inl n) = .str (hk n)) → (∀ n ∈ ns, wv (.inl n) = .int (wt n)) → Pr2 K G ns (fun n => .str (hk n)) (fun n => .int (wt n)) (kvF ns vf) := fun {vf hk wt} ex hd hw => by
    refine ⟨by unfold kvF; rw [List.map_map]; rfl, fun i n en => ?_⟩
    have m := List.mem_of_getElem? en
    obtain ⟨a, u, v, e1, e2, e3, e4⟩ := h.en (.inl n, .str n, vf n) (by rw [ex]; exact List.mem_map.mpr ⟨n, m, rfl⟩)
    have e1 : vf n = .ref a := e1
    have e3 : Dp K G u (dv (.inl n)) := e3
    have e4 : Dp K G v (wv (.inl n)) := e4
    rw [hd n m] at e3
    rw [hw n m] at e4
    cases e3
    cases e4
    exact ⟨a, by unfold kvF; rw [List.getElem?_map, en, ← e1]; rfl, e2⟩
  cases o with
  | row k z0 good at_ bad =>
    obtain ⟨z, hz, z1, z2⟩ := at1 at_
    have mz := List.mem_of_getElem? hz
    rw [z2] at kk
    have go : ∀ {G2 : Hp}, But r G G2 → SeqKept G G2 → G2 r = some (MxO P w r xs) → ∀ p dx, G2 p = none → G2 dx = none → dx ≠ p → spBInitX P w K CB CR [.ref p, .ref r] (upd (upd G2 dx (.own p)) p (.ins CH dx [])) (fun v H2 => v = .non ∧ ∃ u, (some (some V.non) : Option (Option V)) = some (some u) ∧ Q u H2) (EchB K CB CR Q) := fun {G2} bt sk hr2 p dx n1 n2 n3 =>
      mkb_row (k := k) (z := z) (eb := fun m => hookB (dv m) (xs.map (·.1)) && waitB (wv m)) hr2 (h.O.kept sk) (ent sk) (fun j q lt ej => by
        obtain ⟨q0, hq0, q1, _⟩ := at0 ej
        have a := good j q0 lt hq0
        rw [q1] at a
        rw [tr (List.mem_of_getElem? ej)]
        exact a) hz (by
        rw [tr mz, ← z1]
        exact bad) (fun t y H' s ht sd => kk _ _ (bt.trans (But.of s)) ⟨t, y, rfl, ht, sd⟩) p dx n1 n2 n3
    rcases h.at_ with ⟨_, hr⟩ | ⟨_, vf, hr, ex⟩
    · exact .inl ⟨_, e, fun p dx n1 n2 n3 => Or.inr (go (But.of (Same.refl _)) (fun _ _ e _ => e) hr p dx n1 n2 n3)⟩
    · refine row_mx (xs := xs) e (.inr ⟨ns.map fun n => (n, vf n), by rw [hr]; unfold kvF; rw [List.map_map]; rfl, by rw [ex, List.map_map]; rfl⟩) fun G2 sk bt _ hr2 => fun p dx n1 n2 n3 => Or.inr (go bt sk hr2 p dx n1 n2 n3)
  | round no hk all hd k z l R =>
    obtain ⟨vf, hr, ex⟩ := (h.at_.resolve_left fun n => n.1 no).2
    obtain ⟨wt, hwt⟩ := wts all
    refine .inl ⟨_, e, fun p dx n1 n2 n3 => Or.inr (mkb_round (wt := wt) hr (prs ex hd fun n m => (hwt n m).1) (fun n m => ⟨(h.X.ky.nm n m).1, (hwt n m).2⟩) R (fun t q H' s ht hq => kk _ _ (But.of s) ⟨t, q, rfl, ht, hq, R.ll⟩) p dx n1 n2 n3)⟩
  | none no hk all hd ho no2 =>
    obtain ⟨vf, hr, ex⟩ := (h.at_.resolve_left fun n => n.1 no).2
    obtain ⟨wt, hwt⟩ := wts all
    refine .inl ⟨_, e, fun p dx n1 n2 n3 => Or.inl (mk_book (Q := fun _ H' => ∃ u, (some (some V.non) : Option (Option V)) = some (some u) ∧ Q u H') hr (prs ex hd fun n m => (hwt n m).1) (rok_of ho h.X.ky.nd h.X.ky.nm (by have := h.X.ky.len; omega) no2) (fun n m => (hwt n m).2) (fun p H' ys _ s _ _ _ => ⟨.non, rfl, kk _ _ (But.of s) rfl⟩) p dx n1 n2 n3)⟩
end
end K5
set_option Elab.async false
set_option linter.all false
set_option maxRecDepth 100000
set_option maxHeartbeats 4000000
namespace K5
open PySem L2
local macro_rules | `(tactic| walk_at "rd1") => `(tactic| first
  | refine ⟨_, _, rfl, rfl, ?_⟩
  | refine ⟨_, _, _, _, rfl, rfl, SqL.of (by assumption), rfl, ?_⟩
  | refine ⟨_, _, _, _, rfl, rfl, (by assumption), rfl, ?_⟩
  | refine .inl ⟨_, rfl, ?_⟩
  | refine ⟨_, rfl, ?_⟩
  | refine ⟨(by unfold CMul; omega), ?_⟩
  | refine ⟨(by unfold CPow; omega), ?_⟩
  | refine ⟨(by (try dsimp only); omega), ?_⟩
  | refine ⟨(by unfold CDiv; omega), ?_⟩
  | fail "rd1")
local macro_rules | `(tactic| walk_at "rd") => `(tactic| repeat' (walk_at "rd1"))
open Own
section
variable {P : Program} {w : World} {K : PySem.W.Frag} {mg : Str → Option Value} {base : Heap} {A : Ad}
/-- what stands while rows are bent -/
structure F7 (P : Program) (w : World) (K : PySem.W.Frag) (pn pr bl pw : Addr) (ns rs : List Str) (vf : Str → V) (dv : Str → PyData) (E : Hp) : Prop where
  n : E pn = some (.lst (ns.map V.str))
  r : E pr = some (.dK (kvF rs vf))
  b : E bl = some (.lst [])
  hw : E pw = some (MxO P w pw [])
  v : ∀ n ∈ rs, Dp K E (vf n) (dv n) ∧ OkV (dv n)
theorem F7.up {pn pr bl pw : Addr} {ns rs : List Str} {vf : Str → V} {dv : Str → PyData} {E E' : Hp} (h : F7 P w K pn pr bl pw ns rs vf dv E) (s : Same E E') : F7 P w K pn pr bl pw ns rs vf dv E' :=
  ⟨s _ _ h.n, s _ _ h.r, s _ _ h.b, s _ _ h.hw, fun n m => ⟨dpSame s (h.v n m).1, (h.v n m).2⟩⟩
theorem odd7 {E : Hp} {e1 t1 : Addr} {i : Nat} {u : V} (h1 : E e1 = some (.lst [])) (h2 : E t1 = some (.tup [.str "clock", .int 0])) (h : [V.str "nobody", .str "", .non, .int 5, .ref e1, .ref t1, .bl true, .str "Clock"][i]? = some u) : ∃ d, Dp K E u d ∧ OkV d := by
  rcases i with _ | _ | _ | _ | _ | _ | _ | _ | i
  · cases h; exact ⟨_, .str _, .str _ (by decide +kernel)⟩
  · cases h; exact ⟨_, .str _, .str _ (by decide +kernel)⟩
  · cases h; exact ⟨_, .non, .non⟩
  · cases h; exact ⟨_, .int _, .five⟩
  · cases h; exact ⟨_, .lst (SqL.of h1) .nil, .lst⟩
  · cases h; exact ⟨_, .tup (SqT.of h2) (.cons (.str _) (.cons (.int _) .nil)), .tup⟩
  · cases h; exact ⟨_, .bl _, .tru⟩
  · cases h; exact ⟨_, .str _, .str _ (by decide +kernel)⟩
  · simp at h
/-- a key that is no name, as it is drawn -/
theorem key7 {E : Hp} {tk : Addr} {i : Nat} {u : V} (h1 : E tk = some (.tup [.str "a"])) (h : [V.str "clock", .str "", .str "A", .int 5, .non, .ref tk][i]? = some u) : ∃ k : MK, OddK k ∧ ∀ x, KeyAt E (k, u, x) := by
  rcases i with _ | _ | _ | _ | _ | _ | i
  · cases h; exact ⟨_, .clock, fun _ => rfl⟩
  · cases h; exact ⟨_, .empty, fun _ => rfl⟩
  · cases h; exact ⟨_, .big, fun _ => rfl⟩
  · cases h; exact ⟨_, .five, fun _ => rfl⟩
  · cases h; exact ⟨_, .non, fun _ => rfl⟩
  · cases h; exact ⟨_, .tup, fun _ => ⟨tk, rfl, h1⟩⟩
  · simp at h
/-- what stands when the rows are made -/
structure G7 (P : Program) (w : World) (K : PySem.W.Frag) (pn pr bl pw : Addr) (ns rs : List Str) (xs : List (MK × V × V)) (ko : Option MK) (dv : MK → PyData) (E : Hp) : Prop where
  n : E pn = some (.lst (ns.map V.str))
  b : E bl = some (.lst [])
  hw : E pw = some (MxO P w pw [])
  ne : pr ≠ pw
  rr : Rr P w K E pr xs rs ko dv
  hd : ko = none → ∃ vf : Str → V, E pr = some (.dK (kvF rs vf)) ∧ xs = rs.map fun n => (.inl n, .str n, vf n)
theorem Rr.up {H H' : Hp} {r : Addr} {xs : List (MK × V × V)} {ns : List Str} {ko : Option MK} {dv : MK → PyData} (h : Rr P w K H r xs ns ko dv) (s : Same H H') : Rr P w K H' r xs ns ko dv :=
  ⟨h.at_.imp (fun e => s _ _ e) fun ⟨m, e, z⟩ => ⟨m, s _ _ e, z⟩, h.O.kept (same_kept s), h.X⟩
theorem G7.up {pn pr bl pw : Addr} {ns rs : List Str} {xs : List (MK × V × V)} {ko : Option MK} {dv : MK → PyData} {E E' : Hp} (h : G7 P w K pn pr bl pw ns rs xs ko dv E) (s : Same E E') : G7 P w K pn pr bl pw ns rs xs ko dv E' :=
  ⟨s _ _ h.n, s _ _ h.b, s _ _ h.hw, h.ne, h.rr.up s, fun n => by obtain ⟨vf, e, z⟩ := h.hd n; exact ⟨vf, s _ _ e, z⟩⟩
def dv0 (dv : Str → PyData) (d : PyData) : MK → PyData
  | .inl s => dv s
  | _ => d
theorem map_fst3 {rs : List Str} {vf : Str → V} : (rs.map fun n => ((.inl n : MK), V.str n, vf n)).map (·.1) = rs.map Sum.inl := by rw [List.map_map]; rfl
/-- as they were bent -/
theorem F7.g {pn pr bl pw : Addr} {ns rs : List Str} {vf : Str → V} {dv : Str → PyData} {E : Hp} (h : F7 P w K pn pr bl pw ns rs vf dv E) (ky : KyOk rs none) : G7 P w K pn pr bl pw ns rs (rs.map fun n => (.inl n, .str n, vf n)) none (dv0 dv .none) E := by
  refine ⟨h.n, h.b, h.hw, (fun z => by have e1 := h.hw; rw [← z, h.r] at e1; cases e1), ⟨.inr ⟨rs.map fun n => (n, vf n), by rw [h.r]; unfold kvF; rw [List.map_map]; rfl, by rw [List.map_map]; rfl⟩, ⟨fun z m => ?_, ?_, fun z m => ?_, fun z m => ?_, ?_⟩, ⟨ky, ?_, fun k m => ?_, (fun k m => nomatch m)⟩⟩, fun _ => ⟨vf, h.r, rfl⟩⟩
  · obtain ⟨n, _, rfl⟩ := List.mem_map.mp m; rfl
  · rw [map_fst3]; have := ky.nodup; unfold keysOf at this; rwa [show Option.toList (none : Option MK) = [] from rfl, List.append_nil] at this
  · obtain ⟨n, mn, rfl⟩ := List.mem_map.mp m; exact (h.v n mn).1
  · obtain ⟨n, mn, rfl⟩ := List.mem_map.mp m; exact ky.kw (List.mem_append_left _ (List.mem_map.mpr ⟨n, mn, rfl⟩))
  · rw [List.length_map]; exact Nat.le_trans ky.len (by decide)
  · rw [map_fst3]; exact (List.append_nil _).symm
  · rw [map_fst3] at m
    obtain ⟨n, mn, rfl⟩ := List.mem_map.mp m
    exact (h.v n mn).2
def dvK (dv : Str → PyData) (k : MK) : MK → PyData := fun z => if z = k then .str "clock" else dv0 dv .none z
/-- with one key more -/
theorem F7.gk {pn pr bl pw p : Addr} {ns rs : List Str} {vf : Str → V} {dv : Str → PyData} {E : Hp} {k : MK} {u : V} (h : F7 P w K pn pr bl pw ns rs vf dv E) (ky : KyOk rs (some k)) (hk : ∀ x, KeyAt E (k, u, x)) (ne : (∀ s, k ≠ .inl s) → ∀ n ∈ rs, PyData.eqv (dv n) (kdM k) = false)
    (hpw : p ≠ pw) (hp : E p = some (MxO P w p (rs.map (fun n => ((.inl n : MK), V.str n, vf n)) ++ [(k, u, .str "clock")]))) : G7 P w K pn p bl pw ns rs (rs.map (fun n => ((.inl n : MK), V.str n, vf n)) ++ [(k, u, .str "clock")]) (some k) (dvK dv k) E := by
  have ek : List.map (fun z : MK × V × V => z.1) (rs.map (fun n => ((.inl n : MK), V.str n, vf n)) ++ [(k, u, V.str "clock")]) = keysOf rs (some k) := by rw [List.map_append, map_fst3]; rfl
  have nk : ∀ n ∈ rs, (Sum.inl n : MK) ≠ k := fun n m e => by
    have := (ky.odd k rfl).no
    rw [← e, show nmK (.inl n) = nmB n from rfl, nm_nmB (ky.nm n m).1] at this
    cases this
  have dk : dvK dv k k = .str "clock" := if_pos rfl
  have dn : ∀ n ∈ rs, dvK dv k (.inl n) = dv n := fun n m => if_neg (nk n m)
  refine ⟨h.n, h.b, h.hw, hpw, ⟨.inl hp, ⟨fun z m => ?_, by rw [ek]; exact ky.nodup, fun z m => ?_, fun z m => ?_, ?_⟩, ⟨ky, ek, fun z m => ?_, fun z m nt y my => ?_⟩⟩, (fun z => nomatch z)⟩
  · rcases List.mem_append.mp m with m | m
    · obtain ⟨n, _, rfl⟩ := List.mem_map.mp m; rfl
    · rw [List.mem_singleton.mp m]; exact hk _
  · rcases List.mem_append.mp m with m | m
    · obtain ⟨n, mn, rfl⟩ := List.mem_map.mp m
      dsimp only
      rw [dn n mn]
      exact (h.v n mn).1
    · rw [List.mem_singleton.mp m]
      dsimp only
      rw [dk]
      exact .str _
  · exact ky.kw (by rw [← ek]; exact List.mem_map.mpr ⟨z, m, rfl⟩)
  · have := ky.len2
    rw [← ek, List.length_map] at this
    omega
  · rw [ek] at m
    rcases List.mem_append.mp m with m | m
    · obtain ⟨n, mn, rfl⟩ := List.mem_map.mp m
      rw [dn n mn]
      exact (h.v n mn).2
    · rw [show z = k from List.mem_singleton.mp m, dk]
      exact .str _ (by decide +kernel)
  · obtain rfl : k = z := by cases m; rfl
    rw [ek] at my
    rcases List.mem_append.mp my with m | m
    · obtain ⟨n, mn, rfl⟩ := List.mem_map.mp m
      rw [dn n mn]
      exact ne nt n mn
    · rw [show y = k from List.mem_singleton.mp m, dk, eqv_sk]
      exact decide_eq_false (nt _)
theorem OkV.dep {d : PyData} (h : OkV d) : d.depth ≤ 2 := by
  cases h <;> simp [PyData.depth, PyData.depthAll]
theorem shaped_all : ∀ {ds : List PyData}, (∀ d ∈ ds, SeqAt.shaped d = true ∧ d.depth ≤ 2) → SeqAt.shaped (.list ds) = true := by
  have key : ∀ ds : List PyData, (∀ d ∈ ds, SeqAt.shaped d = true ∧ d.depth ≤ 2) → PyData.canLayAll0 ds = true ∧ PyData.depthAll ds ≤ 2 := fun ds => by
    induction ds with
    | nil => intro _; simp [PyData.canLayAll0, PyData.depthAll]
    | cons d ds ih =>
      intro h
      obtain ⟨a, b⟩ := ih fun x m => h x (.tail _ m)
      obtain ⟨c, e⟩ := h d (.head _)
      have c := SeqAt.canLay_of_shaped c
      refine ⟨by simp [PyData.canLayAll0, a, c], ?_⟩
      simp only [PyData.depthAll]
      omega
  intro ds h
  obtain ⟨a, b⟩ := key ds h
  have : PyData.depthAll ds + 1 ≤ 64 := by omega
  simp [SeqAt.shaped, PyData.canLay0, PyData.depth, a, this]
theorem vals_dp {E : Hp} {rs : List Str} {vf : Str → V} {dv : Str → PyData} (h : ∀ n ∈ rs, Dp K E (vf n) (dv n)) : DpAll K E (rs.map vf) (rs.map dv) := by
  induction rs with
  | nil => exact .nil
  | cons a r ih => exact .cons (h a (.head _)) (ih fun n m => h n (.tail _ m))
theorem items7 {H : Hp} {ts : List Addr} {rs : List Str} {vf : Str → V} (h : Paired (fun (t : Addr) (q : Key × V) => H t = some (.tup [kV q.1, q.2])) ts (kvF rs vf)) {k : MK} {u : V} {tq : Addr} (hq : H tq = some (.tup [u, .str "clock"])) (hk : KeyL K H u k) :
    Paired (fun p (x : MK × V × V) => SqT K H p [x.2.1, x.2.2] ∧ KeyL K H x.2.1 x.1) (ts ++ [tq]) (rs.map (fun n => ((.inl n : MK), V.str n, vf n)) ++ [(k, u, V.str "clock")]) := by
  induction rs generalizing ts with
  | nil =>
    cases h
    exact .cons ⟨SqT.of hq, hk⟩ .nil
  | cons a r ih =>
    cases h with
    | cons h1 h2 => exact .cons ⟨SqT.of h1, rfl⟩ (ih h2)
theorem er_ext {H C : Hp} {st : Addr} (e : LamX.ExtN H C) : LamX.ExtN (er H st) (er C st) := fun b o h n => er_of (er_some h).1 (e _ _ (er_some h).2 n)
theorem ext_kept {E E' : Hp} (e : LamX.ExtN E E') : SeqKept E E' := fun a o h q => e _ _ h fun ps z => by rw [z] at q; cases q
theorem mx_ntbl {r : Addr} {xs : List (MK × V × V)} : ∀ ps, MxO P w r xs ≠ .tbl ps := (notSt_mx (r := r) (P := P) (w := w) (xs := xs)).t
theorem Rr.ext {H H' : Hp} {r : Addr} {xs : List (MK × V × V)} {ns : List Str} {ko : Option MK} {dv : MK → PyData} (h : Rr P w K H r xs ns ko dv) (s : LamX.ExtN H H') : Rr P w K H' r xs ns ko dv :=
  ⟨h.at_.imp (fun e => s _ _ e mx_ntbl) fun ⟨m, e, z⟩ => ⟨m, s _ _ e (fun _ z => nomatch z), z⟩, h.O.kept (ext_kept s), h.X⟩
theorem G7.ext {pn pr bl pw : Addr} {ns rs : List Str} {xs : List (MK × V × V)} {ko : Option MK} {dv : MK → PyData} {E E' : Hp} (h : G7 P w K pn pr bl pw ns rs xs ko dv E) (s : LamX.ExtN E E') : G7 P w K pn pr bl pw ns rs xs ko dv E' :=
  ⟨s _ _ h.n (fun _ z => nomatch z), s _ _ h.b (fun _ z => nomatch z), s _ _ h.hw mx_ntbl, h.ne, h.rr.ext s, fun n => by obtain ⟨vf, e, z⟩ := h.hd n; exact ⟨vf, s _ _ e (fun _ z => nomatch z), z⟩⟩
/-- what stands behind the first trial -/
structure G8 (P : Program) (w : World) (K : PySem.W.Frag) (pn pr bl pw : Addr) (ns rs : List Str) (xs : List (MK × V × V)) (ko : Option MK) (dv : MK → PyData) (E : Hp) : Prop where
  n : E pn = some (.lst (ns.map V.str))
  b : E bl = some (.lst [])
  hw : E pw = some (MxO P w pw [])
  ne : pr ≠ pw
  r : E pr = some (MxO P w pr xs)
  O : OdR K E xs dv
  X : Kx (xs.map (·.1)) rs ko dv
theorem G8.up {pn pr bl pw : Addr} {ns rs : List Str} {xs : List (MK × V × V)} {ko : Option MK} {dv : MK → PyData} {E E' : Hp} (h : G8 P w K pn pr bl pw ns rs xs ko dv E) (s : Same E E') : G8 P w K pn pr bl pw ns rs xs ko dv E' :=
  ⟨s _ _ h.n, s _ _ h.b, s _ _ h.hw, h.ne, s _ _ h.r, h.O.kept (same_kept s), h.X⟩
theorem but_er {r st : Addr} {H H' : Hp} (b : But r H H') : But r (er H st) (er H' st) := fun x u e n => er_of (er_some e).1 (b _ _ (er_some e).2 n)
theorem RowAt.so {H : Hp} {r : Addr} {xs : List (MK × V × V)} (h : RowAt P w H r xs) : ∃ o, H r = some o ∧ NotSt r o ∧ SeqO o = false := by
  rcases h with e | ⟨m, e, _⟩
  · exact ⟨_, e, notSt_mx, rfl⟩
  · exact ⟨_, e, notSt_dK, rfl⟩
theorem RowAt.ndk {H H' : Hp} {r : Addr} {xs : List (MK × V × V)} (h : RowAt P w H r xs) (pos : 0 < xs.length) (b : But r H H') : ∀ a, H a = some (.dK []) → H' a = some (.dK []) := fun a e => b _ _ e fun z => by
  rw [z] at e
  rcases h with q | ⟨m, q, x⟩
  · rw [q] at e; cases e
  · rw [q] at e
    have : m.map (fun q => ((.inr q.1 : Key), q.2)) = [] := HO.dK.inj (Option.some.inj e)
    have := congrArg List.length this
    rw [x, List.length_map] at pos
    rw [List.length_map, List.length_nil] at this
    omega
end
end K5
set_option Elab.async false
set_option linter.all false
set_option maxRecDepth 100000
set_option maxHeartbeats 4000000
namespace K5
open PySem L2
local macro_rules | `(tactic| walk_at "rd1") => `(tactic| first
  | refine ⟨_, _, rfl, rfl, ?_⟩
  | refine ⟨_, _, _, _, rfl, rfl, SqL.of (by assumption), rfl, ?_⟩
  | refine ⟨_, _, _, _, rfl, rfl, (by assumption), rfl, ?_⟩
  | refine .inl ⟨_, rfl, ?_⟩
  | refine ⟨_, rfl, ?_⟩
  | refine ⟨(by unfold CMul; omega), ?_⟩
  | refine ⟨(by unfold CPow; omega), ?_⟩
  | refine ⟨(by (try dsimp only); omega), ?_⟩
  | refine ⟨(by unfold CDiv; omega), ?_⟩
  | fail "rd1")
local macro_rules | `(tactic| walk_at "rd") => `(tactic| repeat' (walk_at "rd1"))
open Own
section
variable {P : Program} {w : World} {K : PySem.W.Frag} {mg : Str → Option Value} {base : Heap} {A : Ad}
/-- waits of the keys so far, and those that have a bad one -/
structure W7 (K : PySem.W.Frag) (ks : List MK) (bks : List MK) (wv : MK → PyData) (wvs : List (MK × V)) (bvs : List V) (E : Hp) : Prop where
  keys : wvs.map (·.1) = ks
  val : ∀ q ∈ wvs, Dp K E q.2 (wv q.1) ∧ WtV (wv q.1)
  bl : DpAll K E bvs (bks.map kdM)
  bk : ∀ k ∈ ks, k ∈ bks ↔ waitB (wv k) = false
  bs : ∀ k ∈ bks, k ∈ ks
  len : bks.length ≤ ks.length
theorem W7.start {wv : MK → PyData} {E : Hp} : W7 K [] [] wv [] [] E := ⟨rfl, (fun _ m => nomatch m), .nil, (fun _ m => nomatch m), (fun _ m => nomatch m), Nat.le_refl _⟩
theorem W7.kept {ks bks : List MK} {wv : MK → PyData} {wvs : List (MK × V)} {bvs : List V} {E E' : Hp} (h : W7 K ks bks wv wvs bvs E) (s : SeqKept E E') : W7 K ks bks wv wvs bvs E' :=
  ⟨h.keys, fun q m => ⟨dp_kept s _ _ (h.val q m).1, (h.val q m).2⟩, dpAll_kept s _ _ h.bl, h.bk, h.bs, h.len⟩
def setW (wv : MK → PyData) (k : MK) (d : PyData) : MK → PyData := fun z => if z = k then d else wv z
theorem W7.one {ks bks : List MK} {wv : MK → PyData} {wvs : List (MK × V)} {bvs : List V} {E : Hp} (h : W7 K ks bks wv wvs bvs E) {k : MK} (n : k ∉ ks) {v : V} {d : PyData} (hd : Dp K E v d) (ok : WtV d) (g : waitB d = true) : W7 K (ks ++ [k]) bks (setW wv k d) (wvs ++ [(k, v)]) bvs E := by
  have ne : ∀ z ∈ ks, setW wv k d z = wv z := fun z m => by
    unfold setW
    refine if_neg ?_
    intro e
    rw [e] at m
    exact n m
  have eq : setW wv k d k = d := by
    unfold setW
    exact if_pos rfl
  refine ⟨by rw [List.map_append, h.keys]; rfl, fun q m => ?_, h.bl, fun z m => ?_, fun z m => List.mem_append_left _ (h.bs z m), by rw [List.length_append]; exact Nat.le_trans h.len (Nat.le_add_right _ _)⟩
  · rcases List.mem_append.mp m with m | m
    · rw [ne q.1 (by rw [← h.keys]; exact List.mem_map.mpr ⟨q, m, rfl⟩)]; exact h.val q m
    · rw [List.mem_singleton.mp m]
      dsimp only
      rw [eq]; exact ⟨hd, ok⟩
  · rcases List.mem_append.mp m with m | m
    · rw [ne z m]; exact h.bk z m
    · rw [List.mem_singleton.mp m, eq, g]
      exact ⟨fun m => absurd (h.bs _ m) n, fun e => nomatch e⟩
theorem dpAll_app {E : Hp} : ∀ {xs ys : List V} {ds es : List PyData}, DpAll K E xs ds → DpAll K E ys es → DpAll K E (xs ++ ys) (ds ++ es)
  | _, _, _, _, .nil, b => b
  | _, _, _, _, .cons a r, b => .cons a (dpAll_app r b)
theorem W7.two {ks bks : List MK} {wv : MK → PyData} {wvs : List (MK × V)} {bvs : List V} {E : Hp} (h : W7 K ks bks wv wvs bvs E) {k : MK} (n : k ∉ ks) {v y : V} {d : PyData} (hd : Dp K E v d) (ok : WtV d) (g : waitB d = false) (hy : Dp K E y (kdM k)) : W7 K (ks ++ [k]) (bks ++ [k]) (setW wv k d) (wvs ++ [(k, v)]) (bvs ++ [y]) E := by
  have ne : ∀ z ∈ ks, setW wv k d z = wv z := fun z m => by
    unfold setW
    refine if_neg ?_
    intro e
    rw [e] at m
    exact n m
  have eq : setW wv k d k = d := by
    unfold setW
    exact if_pos rfl
  refine ⟨by rw [List.map_append, h.keys]; rfl, fun q m => ?_, by rw [List.map_append]; exact dpAll_app h.bl (.cons hy .nil), fun z m => ?_, fun z m => ?_, ?_⟩
  · rcases List.mem_append.mp m with m | m
    · rw [ne q.1 (by rw [← h.keys]; exact List.mem_map.mpr ⟨q, m, rfl⟩)]; exact h.val q m
    · rw [List.mem_singleton.mp m]
      dsimp only
      rw [eq]; exact ⟨hd, ok⟩
  · rcases List.mem_append.mp m with m | m
    · rw [ne z m, List.mem_append, List.mem_singleton, h.bk z m]
      exact ⟨fun q => q.resolve_right fun e => n (e ▸ m), .inl⟩
    · rw [List.mem_singleton.mp m, eq, g]
      exact ⟨fun _ => rfl, fun _ => List.mem_append_right _ (List.mem_singleton.mpr rfl)⟩
  · rcases List.mem_append.mp m with m | m
    · exact List.mem_append_left _ (h.bs z m)
    · exact List.mem_append_right _ m
  · rw [List.length_append, List.length_append]
    have := h.len
    simp only [List.length_singleton]
    omega
theorem putM_last {acc : List (MK × V)} {k : MK} {v v' : V} (h : k ∉ acc.map (·.1)) : putK (acc ++ [(k, v)]) k v' = acc ++ [(k, v')] := by
  unfold putK
  rw [if_pos (by simp), List.map_append]
  congr 1
  · refine (List.map_congr_left fun q m => ?_).trans (List.map_id _)
    exact if_neg fun e => h (List.mem_map.mpr ⟨q, m, e⟩)
  · simp
theorem bad7 {E : Hp} {e1 : Addr} {i : Nat} {u : V} (h1 : E e1 = some (.lst [])) (h : [V.int (-1), .non, .str "1", .bl true, .ref e1, .int (-999999999)][i]? = some u) : ∃ d, Dp K E u d ∧ WtV d ∧ waitB d = false := by
  rcases i with _ | _ | _ | _ | _ | _ | i
  · cases h; exact ⟨_, .int _, .int _, by decide⟩
  · cases h; exact ⟨_, .non, .non, rfl⟩
  · cases h; exact ⟨_, .str _, .one, rfl⟩
  · cases h; exact ⟨_, .bl _, .tru, rfl⟩
  · cases h; exact ⟨_, .lst (SqL.of h1) .nil, .lst, rfl⟩
  · cases h; exact ⟨_, .int _, .int _, by decide⟩
  · simp at h
theorem mdic_er {H : Hp} {st c pw : Addr} {b : Int} {m : List (MK × V)} (S : Sta H st c b) (h : MDic P w H pw m) : MDic P w (er H st) pw m := by
  obtain ⟨cs, i, l, m1, n, e1, _⟩ := S.ex
  obtain ⟨xs, h1, h2, h3⟩ := h.ex
  refine ⟨xs, er_of (fun z => by rw [z, e1] at h1; cases h1) h1, fun x mx => (h2 x mx).up fun a ys e => er_of (fun z => ?_) e, h3⟩
  rw [z, e1] at e; cases e
theorem keyAt_val {H : Hp} {q : MK × V × V} {v : V} (h : KeyAt H q) : KeyAt H (q.1, q.2.1, v) := h
theorem mdic_at {H : Hp} {pw : Addr} {m : List (MK × V)} (h : MDic P w H pw m) : ∃ xs, H pw = some (MxO P w pw xs) := by
  obtain ⟨xs, h1, _⟩ := h.ex
  exact ⟨xs, h1⟩
theorem sta_ne_mx {H : Hp} {st c r : Addr} {b : Int} {xs : List (MK × V × V)} (S : Sta H st c b) (h : H r = some (MxO P w r xs)) : r ≠ st := fun z => by
  obtain ⟨cs, i, l, m1, n, e1, _⟩ := S.ex
  rw [z, e1] at h; cases h
/-- all that stands in the loop of waits -/
structure L7 (P : Program) (w : World) (K : PySem.W.Frag) (pn p2 bl pw : Addr) (od : Obj) (ns : List Str) (xs : List (MK × V × V)) (dv : MK → PyData) (ks bks : List MK) (wv : MK → PyData) (wvs : List (MK × V)) (bvs : List V) (E : Hp) : Prop where
  r : E p2 = some (.frz od (MxO P w p2 xs))
  O : OdR K E xs dv
  n : E pn = some (.lst (ns.map V.str))
  b : E bl = some (.lst bvs)
  m : MDic P w E pw wvs
  W : W7 K ks bks wv wvs bvs E
theorem L7.up {pn p2 bl pw : Addr} {od : Obj} {ns : List Str} {xs : List (MK × V × V)} {dv : MK → PyData} {ks bks : List MK} {wv : MK → PyData} {wvs : List (MK × V)} {bvs : List V} {E E' : Hp} (h : L7 P w K pn p2 bl pw od ns xs dv ks bks wv wvs bvs E) (s : Same E E') : L7 P w K pn p2 bl pw od ns xs dv ks bks wv wvs bvs E' :=
  ⟨s _ _ h.r, h.O.kept (same_kept s), s _ _ h.n, s _ _ h.b, h.m.up s, h.W.kept (same_kept s)⟩
/-- a wait is put in -/
theorem L7.put {st c pn p2 bl pw : Addr} {od : Obj} {ns : List Str} {xs : List (MK × V × V)} {dv : MK → PyData} {ks bks bks' : List MK} {wv wv' : MK → PyData} {wvs wvs' : List (MK × V)} {bvs : List V} {ks' : List MK} {H : Hp} {z : HO} {b : Int} {cT : Addr} (h : L7 P w K pn p2 bl pw od ns xs dv ks bks wv wvs bvs (er H st)) (B : BdT (T1 cT) st c b H) (ne : p2 ≠ pw)
    (hz : MDic P w (upd H pw z) pw wvs') (W : SeqKept (er H st) (er (upd H pw z) st) → W7 K ks' bks' wv' wvs' bvs (er (upd H pw z) st)) : BdT (T1 cT) st c b (upd H pw z) ∧ L7 P w K pn p2 bl pw od ns xs dv ks' bks' wv' wvs' bvs (er (upd H pw z) st) := by
  obtain ⟨x0, e0⟩ := mdic_at h.m
  have e1 := er_some e0
  have bt := But.upd (r := pw) (H := H) (o := z)
  have B2 := B.but e1.2 notSt_mx bt
  have sk := bt.kept e1.2 rfl
  have skE : SeqKept (er H st) (er (upd H pw z) st) := fun a o e q => er_of (er_some e).1 (sk _ _ (er_some e).2 q)
  exact ⟨B2, but_er bt _ _ h.r ne, h.O.kept skE, skE _ _ h.n rfl, skE _ _ h.b rfl, mdic_er B2.sta hz, W skE⟩
theorem W7.old {ks bks : List MK} {wv : MK → PyData} {wvs : List (MK × V)} {bvs : List V} {E E0 : Hp} {k : MK} {d : PyData} {v : V} (h0 : W7 K ks bks wv wvs bvs E0) (n : k ∉ ks) (h : W7 K (ks ++ [k]) bks (setW wv k d) (wvs ++ [(k, v)]) bvs E) : W7 K ks bks wv wvs bvs E := by
  refine ⟨h0.keys, fun q m => ?_, h.bl, h0.bk, h0.bs, h0.len⟩
  have a := h.val q (List.mem_append_left _ m)
  have : setW wv k d q.1 = wv q.1 := by
    unfold setW
    refine if_neg ?_
    intro e
    exact n (by rw [← e, ← h0.keys]; exact List.mem_map.mpr ⟨q, m, rfl⟩)
  rwa [this] at a
theorem L7.bad {pn p2 bl b2 pw : Addr} {od : Obj} {ns : List Str} {xs : List (MK × V × V)} {dv : MK → PyData} {ks bks ks' bks' : List MK} {wv wv' : MK → PyData} {wvs wvs' : List (MK × V)} {bvs bvs' : List V} {E : Hp} (h : L7 P w K pn p2 bl pw od ns xs dv ks bks wv wvs bvs E) (hb : E b2 = some (.lst bvs')) (W : W7 K ks' bks' wv' wvs bvs' E) : L7 P w K pn p2 b2 pw od ns xs dv ks' bks' wv' wvs bvs' E :=
  ⟨h.r, h.O, h.n, hb, h.m, W⟩
theorem L7.putb {st c pn p2 bl b2 pw : Addr} {od : Obj} {ns : List Str} {xs : List (MK × V × V)} {dv : MK → PyData} {ks bks bks' : List MK} {wv wv' : MK → PyData} {wvs wvs' : List (MK × V)} {bvs bvs' : List V} {ks' : List MK} {H : Hp} {z : HO} {b : Int} {cT : Addr} (h : L7 P w K pn p2 bl pw od ns xs dv ks bks wv wvs bvs (er H st)) (B : BdT (T1 cT) st c b H) (ne : p2 ≠ pw) (hb : er H st b2 = some (.lst bvs'))
    (hz : MDic P w (upd H pw z) pw wvs') (W : SeqKept (er H st) (er (upd H pw z) st) → W7 K ks' bks' wv' wvs' bvs' (er (upd H pw z) st)) : BdT (T1 cT) st c b (upd H pw z) ∧ L7 P w K pn p2 b2 pw od ns xs dv ks' bks' wv' wvs' bvs' (er (upd H pw z) st) := by
  obtain ⟨x0, e0⟩ := mdic_at h.m
  have e1 := er_some e0
  have bt := But.upd (r := pw) (H := H) (o := z)
  have B2 := B.but e1.2 notSt_mx bt
  have sk := bt.kept e1.2 rfl
  have skE : SeqKept (er H st) (er (upd H pw z) st) := fun a o e q => er_of (er_some e).1 (sk _ _ (er_some e).2 q)
  exact ⟨B2, but_er bt _ _ h.r ne, h.O.kept skE, skE _ _ h.n rfl, skE _ _ hb rfl, mdic_er B2.sta hz, W skE⟩
end
end K5
set_option Elab.async false
set_option linter.all false
set_option maxRecDepth 100000
set_option maxHeartbeats 4000000
namespace K5
open PySem L2
local macro_rules | `(tactic| walk_at "rd1") => `(tactic| first
  | refine ⟨_, _, rfl, rfl, ?_⟩
  | refine ⟨_, _, _, _, rfl, rfl, SqL.of (by assumption), rfl, ?_⟩
  | refine ⟨_, _, _, _, rfl, rfl, (by assumption), rfl, ?_⟩
  | refine .inl ⟨_, rfl, ?_⟩
  | refine ⟨_, rfl, ?_⟩
  | refine ⟨(by unfold CMul; omega), ?_⟩
  | refine ⟨(by unfold CPow; omega), ?_⟩
  | refine ⟨(by (try dsimp only); omega), ?_⟩
  | refine ⟨(by unfold CDiv; omega), ?_⟩
  | fail "rd1")
local macro_rules | `(tactic| walk_at "rd") => `(tactic| repeat' (walk_at "rd1"))
open Own
section
variable {P : Program} {w : World} {K : PySem.W.Frag} {mg : Str → Option Value} {base : Heap} {A : Ad}
theorem keyL_kept {H H' : Hp} {y : V} {k : MK} (s : SeqKept H H') (h : KeyL K H y k) : KeyL K H' y k := by
  rcases k with x | (_ | i) | ks
  · exact h
  · exact h
  · exact h
  · obtain ⟨a, e, q⟩ := h
    exact ⟨a, e, sqt_kept s q⟩
/-- pairs told as tuples -/
structure Y7 (K : PySem.W.Frag) (ks2 : List (MK × V)) (ps : List Addr) (yl : List (MK × V × V)) (dv wv : MK → PyData) (E : Hp) : Prop where
  pr : Paired (fun p (x : MK × V × V) => SqT K E p [x.2.1, x.2.2] ∧ KeyL K E x.2.1 x.1) ps yl
  en : ∀ z ∈ yl, ∃ a u v, z.2.2 = .ref a ∧ SqT K E a [u, v] ∧ Dp K E u (dv z.1) ∧ Dp K E v (wv z.1)
  ks : yl.map (fun z => (z.1, z.2.1)) = ks2
theorem Y7.start {dv wv : MK → PyData} {E : Hp} : Y7 K [] [] [] dv wv E := ⟨.nil, (fun _ m => nomatch m), rfl⟩
theorem Y7.kept {ks2 : List (MK × V)} {ps : List Addr} {yl : List (MK × V × V)} {dv wv : MK → PyData} {E E' : Hp} (h : Y7 K ks2 ps yl dv wv E) (s : SeqKept E E') : Y7 K ks2 ps yl dv wv E' :=
  ⟨paired_imp (fun p x z => ⟨sqt_kept s z.1, keyL_kept s z.2⟩) h.pr, fun z m => by obtain ⟨a, u, v, e, q, d1, d2⟩ := h.en z m; exact ⟨a, u, v, e, sqt_kept s q, dp_kept s _ _ d1, dp_kept s _ _ d2⟩, h.ks⟩
theorem Y7.app {ks2 : List (MK × V)} {ps : List Addr} {yl : List (MK × V × V)} {dv wv : MK → PyData} {E : Hp} (h : Y7 K ks2 ps yl dv wv E) {k : MK} {y u v : V} {p a : Addr} (hp : SqT K E p [y, .ref a]) (hk : KeyL K E y k) (ha : SqT K E a [u, v]) (hu : Dp K E u (dv k)) (hv : Dp K E v (wv k)) : Y7 K (ks2 ++ [(k, y)]) (ps ++ [p]) (yl ++ [(k, y, .ref a)]) dv wv E :=
  ⟨paired_snoc h.pr ⟨hp, hk⟩, fun z m => by
    rcases List.mem_append.mp m with m | m
    · exact h.en z m
    · rw [List.mem_singleton.mp m]
      exact ⟨a, u, v, rfl, ha, hu, hv⟩, by rw [List.map_append, h.ks]; rfl⟩
theorem vf_of {rs : List Str} : ∀ {yl : List (MK × V × V)}, rs.Nodup → yl.map (fun z => (z.1, z.2.1)) = rs.map (fun n => ((.inl n : MK), V.str n)) → ∃ vf : Str → V, yl = rs.map fun n => (.inl n, .str n, vf n) := by
  induction rs with
  | nil =>
    intro yl _ h
    cases yl with
    | nil => exact ⟨fun _ => .non, rfl⟩
    | cons a b => cases h
  | cons r rs ih =>
    intro yl nd h
    cases yl with
    | nil => cases h
    | cons a b =>
      obtain ⟨n1, n2⟩ := List.nodup_cons.mp nd
      rw [List.map_cons, List.map_cons] at h
      obtain ⟨e1, e2⟩ := List.cons.inj h
      obtain ⟨vf, e3⟩ := ih n2 e2
      refine ⟨fun n => if n = r then a.2.2 else vf n, ?_⟩
      rw [List.map_cons, e3]
      congr 1
      · obtain ⟨k, y, v⟩ := a
        have e4 := congrArg Prod.fst e1
        have e5 := congrArg Prod.snd e1
        dsimp only at e4 e5 ⊢
        rw [if_pos rfl, e4, e5]
      · refine List.map_congr_left fun n m => ?_
        dsimp only
        rw [if_neg]
        intro e
        rw [e] at m
        exact n1 m
theorem val_mem {m : List (MK × V)} {k : MK} (h : k ∈ m.map (·.1)) : ∃ v, valV m k = some v ∧ (k, v) ∈ m := by
  induction m with
  | nil => cases h
  | cons a r ih =>
    by_cases c : a.1 = k
    · exact ⟨a.2, valV_pos c, by rw [← c]; exact .head _⟩
    · rw [List.map_cons] at h
      rcases List.mem_cons.mp h with e | e
      · exact absurd e.symm c
      · obtain ⟨v, h1, h2⟩ := ih e
        exact ⟨v, by rw [valV_neg c]; exact h1, .tail _ h2⟩
/-- what stands behind the waits -/
structure N7 (P : Program) (w : World) (K : PySem.W.Frag) (pn p2 bl : Addr) (ns : List Str) (xs : List (MK × V × V)) (dv : MK → PyData) (bks : List MK) (wv : MK → PyData) (wvs : List (MK × V)) (bvs : List V) (E : Hp) : Prop where
  r : E p2 = some (MxO P w p2 xs)
  O : OdR K E xs dv
  n : E pn = some (.lst (ns.map V.str))
  b : E bl = some (.lst bvs)
  W : W7 K (xs.map (·.1)) bks wv wvs bvs E
theorem N7.up {pn p2 bl : Addr} {ns : List Str} {xs : List (MK × V × V)} {dv : MK → PyData} {bks : List MK} {wv : MK → PyData} {wvs : List (MK × V)} {bvs : List V} {E E' : Hp} (h : N7 P w K pn p2 bl ns xs dv bks wv wvs bvs E) (s : Same E E') : N7 P w K pn p2 bl ns xs dv bks wv wvs bvs E' :=
  ⟨s _ _ h.r, h.O.kept (same_kept s), s _ _ h.n, s _ _ h.b, h.W.kept (same_kept s)⟩
theorem N7.ext {pn p2 bl : Addr} {ns : List Str} {xs : List (MK × V × V)} {dv : MK → PyData} {bks : List MK} {wv : MK → PyData} {wvs : List (MK × V)} {bvs : List V} {E E' : Hp} (h : N7 P w K pn p2 bl ns xs dv bks wv wvs bvs E) (s : LamX.ExtN E E') : N7 P w K pn p2 bl ns xs dv bks wv wvs bvs E' :=
  ⟨s _ _ h.r mx_ntbl, h.O.kept (ext_kept s), s _ _ h.n (fun _ z => nomatch z), s _ _ h.b (fun _ z => nomatch z), h.W.kept (ext_kept s)⟩
theorem Pp.ext {H H' : Hp} {r : Addr} {xs : List (MK × V × V)} {ns : List Str} {ko : Option MK} {dv wv : MK → PyData} (h : Pp P w K H r xs ns ko dv wv) (s : LamX.ExtN H H') : Pp P w K H' r xs ns ko dv wv :=
  ⟨h.at_.imp (fun ⟨a, e⟩ => ⟨a, s _ _ e mx_ntbl⟩) fun ⟨a, vf, e, z⟩ => ⟨a, vf, s _ _ e (fun _ z => nomatch z), z⟩, h.O.kept (ext_kept s), fun q m => by
    obtain ⟨a, u, v, e1, e2, e3, e4⟩ := h.en q m
    exact ⟨a, u, v, e1, sqt_kept (ext_kept s) e2, dp_kept (ext_kept s) _ _ e3, dp_kept (ext_kept s) _ _ e4⟩, h.wt, h.X⟩
/-- the pairs as a dict -/
theorem Y7.pp {ps : List Addr} {yl xs : List (MK × V × V)} {rs : List Str} {ko : Option MK} {dv wv : MK → PyData} {E : Hp} {p : Addr} (h : Y7 K (xs.map fun z => (z.1, z.2.1)) ps yl dv wv E) (O : OdR K E xs dv) (X : Kx (xs.map (·.1)) rs ko dv) (wt : ∀ k ∈ xs.map (·.1), WtV (wv k))
    (hp : (ko ≠ none ∧ E p = some (MxO P w p yl)) ∨ (ko = none ∧ ∃ vf : Str → V, E p = some (.dK (kvF rs vf)) ∧ yl = rs.map fun n => (.inl n, .str n, vf n))) : Pp P w K E p yl rs ko dv wv := by
  have ek : yl.map (·.1) = xs.map (·.1) := by
    have := congrArg (List.map Prod.fst) h.ks
    rwa [List.map_map, List.map_map] at this
  have at_ : ∀ z ∈ yl, ∃ z0 ∈ xs, z0.1 = z.1 ∧ z0.2.1 = z.2.1 := fun z m => by
    have : (z.1, z.2.1) ∈ xs.map fun z => (z.1, z.2.1) := by rw [← h.ks]; exact List.mem_map.mpr ⟨z, m, rfl⟩
    obtain ⟨z0, m0, e⟩ := List.mem_map.mp this
    have e := Prod.mk.inj e
    exact ⟨z0, m0, e.1, e.2⟩
  refine ⟨hp, ⟨fun z m => ?_, by rw [ek]; exact O.nd, fun z m => ?_, ?_⟩, h.en, fun q m => wt _ (by rw [← ek]; exact List.mem_map.mpr ⟨q, m, rfl⟩), by rw [ek]; exact X⟩
  · obtain ⟨z0, m0, e1, e2⟩ := at_ z m
    have := keyAt_val (v := z.2.2) (O.key z0 m0)
    rw [e1, e2] at this
    exact this
  · obtain ⟨z0, m0, e1, e2⟩ := at_ z m
    have := O.kw z0 m0
    rwa [e1] at this
  · have := congrArg List.length ek
    rw [List.length_map, List.length_map] at this
    rw [this]; exact O.len
theorem paired_mapR {α β γ δ : Type} {R : α → β → Prop} {S : α → γ → Prop} {f : δ → β} {g : δ → γ} : ∀ {xs : List α} {l : List δ}, Paired R xs (l.map f) → (∀ p n, R p (f n) → S p (g n)) → Paired S xs (l.map g)
  | xs, [], h, k => by cases h; exact .nil
  | xs, n :: l, h, k => by
    cases h with
    | cons a b => exact .cons (k _ _ a) (paired_mapR b k)
theorem keys_txt {H : Hp} : ∀ {xs : List (MK × V × V)} {rs : List Str}, (∀ z ∈ xs, KeyAt H z) → xs.map (·.1) = rs.map Sum.inl → xs.map (fun z => (z.1, z.2.1)) = rs.map fun n => ((.inl n : MK), V.str n)
  | [], [], _, _ => rfl
  | [], _ :: _, _, e => nomatch e
  | _ :: _, [], _, e => nomatch e
  | z :: xs, n :: rs, h, e => by
    rw [List.map_cons, List.map_cons] at e
    obtain ⟨e1, e2⟩ := List.cons.inj e
    have k := h z (.head _)
    rw [List.map_cons, List.map_cons, keys_txt (fun q m => h q (.tail _ m)) e2]
    obtain ⟨m, y, v⟩ := z
    cases e1
    have k : y = .str n := k
    rw [k]
end
end K5
set_option Elab.async false
set_option linter.all false
set_option maxRecDepth 100000
set_option maxHeartbeats 4000000
namespace K5
open PySem L2
local macro_rules | `(tactic| walk_at "rd1") => `(tactic| first
  | refine ⟨_, _, rfl, rfl, ?_⟩
  | refine ⟨_, _, _, _, rfl, rfl, SqL.of (by assumption), rfl, ?_⟩
  | refine ⟨_, _, _, _, rfl, rfl, (by assumption), rfl, ?_⟩
  | refine .inl ⟨_, rfl, ?_⟩
  | refine ⟨_, rfl, ?_⟩
  | refine ⟨(by unfold CMul; omega), ?_⟩
  | refine ⟨(by unfold CPow; omega), ?_⟩
  | refine ⟨(by (try dsimp only); omega), ?_⟩
  | refine ⟨(by unfold CDiv; omega), ?_⟩
  | fail "rd1")
local macro_rules | `(tactic| walk_at "rd") => `(tactic| repeat' (walk_at "rd1"))
open Own
section
variable {P : Program} {w : World} {K : PySem.W.Frag} {mg : Str → Option Value} {base : Heap} {A : Ad}
theorem kd_inj {ns : List Str} {ko : Option MK} (h : KyOk ns ko) {k z : MK} (mk : k ∈ keysOf ns ko) (mz : z ∈ keysOf ns ko) : PyData.eqv (kdM k) (kdM z) = decide (k = z) := by
  have txt : ∀ s : Str, PyData.eqv (kdM (.inl s)) (kdM z) = decide ((.inl s : MK) = z) := fun s => by
    rw [show kdM (.inl s) = .str s from rfl, eqv_sk]
    by_cases c : z = .inl s
    · rw [decide_eq_true c, decide_eq_true c.symm]
    · rw [decide_eq_false c, decide_eq_false fun e => c e.symm]
  rcases List.mem_append.mp mk with m | m
  · obtain ⟨n, _, rfl⟩ := List.mem_map.mp m
    exact txt n
  · have ok := h.odd k (Option.mem_toList.mp m)
    rcases List.mem_append.mp mz with m2 | m2
    · obtain ⟨n, mn, rfl⟩ := List.mem_map.mp m2
      have ne : k ≠ .inl n := fun e => by
        have := ok.no
        rw [e, show nmK (.inl n) = nmB n from rfl, nm_nmB (h.nm n mn).1] at this
        cases this
      rw [decide_eq_false ne]
      cases ok with
      | clock => rw [txt]; exact decide_eq_false ne
      | empty => rw [txt]; exact decide_eq_false ne
      | big => rw [txt]; exact decide_eq_false ne
      | five => simp [kdM, PyData.eqv]
      | non => simp [kdM, PyData.eqv]
      | tup => simp [kdM, PyData.eqv]
    · have : k = z := by
        have a := Option.mem_toList.mp m
        have b := Option.mem_toList.mp m2
        rw [a] at b
        exact Option.some.inj b
      subst this
      rw [decide_eq_true rfl]
      cases ok <;> decide +kernel
theorem in_bks {ns : List Str} {ko : Option MK} (h : KyOk ns ko) {bks : List MK} (hb : ∀ k ∈ bks, k ∈ keysOf ns ko) {k : MK} (mk : k ∈ keysOf ns ko) : inD (bks.map kdM) k = true ↔ k ∈ bks := by
  unfold inD
  rw [List.any_map, List.any_eq_true]
  constructor
  · rintro ⟨z, mz, e⟩
    have e : PyData.eqv (kdM z) (kdM k) = true := e
    rw [kd_inj h (hb z mz) mk] at e
    rw [← of_decide_eq_true e]
    exact mz
  · intro m
    refine ⟨k, m, ?_⟩
    show PyData.eqv (kdM k) (kdM k) = true
    rw [kd_inj h mk mk, decide_eq_true rfl]
theorem hb_of {ns : List Str} {ko : Option MK} (h : KyOk ns ko) {bks : List MK} {wv : MK → PyData} {wvs : List (MK × V)} {bvs : List V} {E : Hp} (W : W7 K (keysOf ns ko) bks wv wvs bvs E) {k : MK} (mk : k ∈ keysOf ns ko) : inD (bks.map kdM) k = !waitB (wv k) := by
  have a := (in_bks h W.bs mk).trans (W.bk k mk)
  cases c : waitB (wv k) with
  | false => exact a.mpr c
  | true =>
    cases d : inD (bks.map kdM) k with
    | false => rfl
    | true =>
      have := a.mp d
      rw [c] at this
      cases this
/-- what is no entry of a book -/
theorem ent7 {E : Hp} {t1 t2 e1 e2 l1 l2 : Addr} {i : Nat} {u : V} {ks : List MK} (h1 : E t1 = some (.tup [.str "clock"])) (h2 : E t2 = some (.tup [.str "clock", .int 1, .int 2])) (h3 : E e1 = some (.lst [])) (h4 : E e2 = some (.dK [])) (h5 : E l2 = some (.lst [.ref l1]))
    (h : [V.non, .int 5, .str "clock", .ref t1, .ref t2, .ref e1, .ref e2, .ref l2][i]? = some u) : EntV K E u ks false := by
  rcases i with _ | _ | _ | _ | _ | _ | _ | _ | i
  · cases h; exact .inl ⟨.inl rfl, rfl⟩
  · cases h; exact .inl ⟨.inr (.inr (.inl ⟨_, rfl⟩)), rfl⟩
  · cases h; exact .inl ⟨.inr (.inr (.inr (.inl ⟨_, rfl⟩))), rfl⟩
  · cases h; exact .inr (.inl ⟨_, _, rfl, .inr (SqT.of h1), by simp, rfl⟩)
  · cases h; exact .inr (.inl ⟨_, _, rfl, .inr (SqT.of h2), by simp, rfl⟩)
  · cases h; exact .inr (.inl ⟨_, _, rfl, .inl (SqL.of h3), by simp, rfl⟩)
  · cases h; exact .inl ⟨.inr (.inr (.inr (.inr ⟨_, rfl, h4⟩))), rfl⟩
  · cases h; exact .inr (.inl ⟨_, _, rfl, .inl (SqL.of h5), by simp, rfl⟩)
  · simp at h
/-- one entry that is none -/
theorem third7 {CB CR CH : Addr} {G : Hp} {σ : St} {i : Nat} {r : Addr} {ns : List Str} {m : Nat} {vf : Str → V} {Q : VK} (e : σ[i]? = some (some (.ref r))) (ky : KyOk ns none) (hm : m < ns.length) (hr : G r = some (.dK (kvF ns vf)))
    (good : ∀ n ∈ ns, n ≠ ns[m] → ∃ a, vf n = .ref a ∧ SqT K G a [.str "clock", .int 0]) (bad : EntV K G (vf ns[m]) (ns.map Sum.inl) false) (ndk : ∀ a, G a = some (.dK []) → a ≠ r) (kk : ∀ v H', But r G H' → VT K H' v (.row (.str ns[m])) → Q v H') :
    TTb K CB CR (fun E H' Q' => (fun E2 => tMake CH (sBk P w K CH CB CR) [] E2 (tMv P w i)) E σ H' Q') G Q := by
  refine row_mx (xs := ns.map fun n => (.inl n, .str n, vf n)) e (.inr ⟨ns.map fun n => (n, vf n), by rw [hr]; unfold kvF; rw [List.map_map]; rfl, by rw [List.map_map]; rfl⟩) fun G2 sk bt _ hr2 => fun p dx n1 n2 n3 => Or.inr ?_
  have at_ : ∀ j (hj : j < ns.length), (ns.map fun n => ((.inl n : MK), V.str n, vf n))[j]? = some (.inl ns[j], .str ns[j], vf ns[j]) := fun j hj => by rw [List.getElem?_map, List.getElem?_eq_getElem hj]; rfl
  have kd0 : G2 r = some (MxO P w r (ns.map fun n => ((.inl n : MK), V.str n, vf n))) := hr2
  have O : OdK G2 (ns.map fun n => ((.inl n : MK), V.str n, vf n)) := by
    refine ⟨fun z mz => ?_, ?_, fun z mz => ?_, ?_⟩
    · obtain ⟨n, _, rfl⟩ := List.mem_map.mp mz; rfl
    · rw [map_fst3]; have := ky.nodup; unfold keysOf at this; rwa [show Option.toList (none : Option MK) = [] from rfl, List.append_nil] at this
    · obtain ⟨n, mn, rfl⟩ := List.mem_map.mp mz; exact ky.kw (List.mem_append_left _ (List.mem_map.mpr ⟨n, mn, rfl⟩))
    · rw [List.length_map]; exact Nat.le_trans ky.len (by decide)
  refine mkb_row (k := m) (eb := fun k => !decide (k = .inl ns[m])) hr2 O (fun q mq => ?_) (fun j q lt ej => ?_) (at_ m hm) (by
    dsimp only
    rw [decide_eq_true rfl]; exact Bool.and_false _) (fun t y H' s ht sd => kk _ _ (But.trans bt (But.of s)) ⟨t, y, rfl, ht, sd⟩) p dx n1 n2 n3
  · obtain ⟨n, mn, rfl⟩ := List.mem_map.mp mq
    rw [map_fst3]
    dsimp only
    by_cases c : n = ns[m]
    · rw [c, decide_eq_true rfl]
      exact bad.kept sk fun a e => bt _ _ e (ndk a e)
    · obtain ⟨a, e1, e2⟩ := good n mn c
      rw [e1, decide_eq_false (fun z => c (Sum.inl.inj z))]
      refine .inr (.inr ⟨a, _, _, .str "clock", .int 0, rfl, .inr (sqt_kept sk e2), .str _, .int _, ?_, ?_⟩)
      · have := ky.ask (.str "clock" (by decide +kernel))
        unfold keysOf at this
        rwa [show Option.toList (none : Option MK) = [] from rfl, List.append_nil] at this
      · unfold hookB
        rw [eqv_ss, decide_eq_true rfl]
        rfl
  · have hj : j < ns.length := by
      have := (List.getElem?_eq_some_iff.mp ej).1
      rwa [List.length_map] at this
    rw [at_ j hj] at ej
    cases ej
    dsimp only
    rw [show nmK (.inl ns[j]) = nmB ns[j] from rfl, nm_nmB (ky.nm _ (List.getElem_mem hj)).1, Bool.true_and]
    rw [decide_eq_false fun z => List.pairwise_iff_getElem.mp ky.nd j m hj hm lt (Sum.inl.inj z)]
    rfl
theorem vfK_of {ns : List Str} : ∀ {kvs : List (Key × V)}, ns.Nodup → kvs.map (·.1) = ns.map Sum.inr → ∃ vf : Str → V, kvs = kvF ns vf := by
  induction ns with
  | nil =>
    intro kvs _ h
    cases kvs with
    | nil => exact ⟨fun _ => .non, rfl⟩
    | cons a b => cases h
  | cons r rs ih =>
    intro kvs nd h
    cases kvs with
    | nil => cases h
    | cons a b =>
      obtain ⟨n1, n2⟩ := List.nodup_cons.mp nd
      rw [List.map_cons, List.map_cons] at h
      obtain ⟨e1, e2⟩ := List.cons.inj h
      obtain ⟨vf, e3⟩ := ih n2 e2
      refine ⟨fun n => if n = r then a.2 else vf n, ?_⟩
      unfold kvF at e3 ⊢
      rw [List.map_cons, e3]
      congr 1
      · obtain ⟨k, v⟩ := a
        dsimp only at e1 ⊢
        rw [if_pos rfl, e1]
      · refine List.map_congr_left fun n m => ?_
        dsimp only
        rw [if_neg]
        intro e
        rw [e] at m
        exact n1 m
theorem EntV.ext {H H' : Hp} {x : V} {ks : List MK} {b : Bool} (h : EntV K H x ks b) (s : LamX.ExtN H H') : EntV K H' x ks b := h.kept (ext_kept s) fun a e => s _ _ e (fun _ z => nomatch z)
theorem ndk_of {H : Hp} {r : Addr} {ns : List Str} {vf : Str → V} (hr : H r = some (.dK (kvF ns vf))) (pos : 0 < ns.length) : ∀ a, H a = some (.dK []) → a ≠ r := fun a e z => by
  rw [z, hr] at e
  have := congrArg List.length (HO.dK.inj (Option.some.inj e))
  rw [kvF_len, List.length_nil] at this
  omega
end
end K5
set_option Elab.async false
set_option linter.all false
set_option maxRecDepth 100000
set_option maxHeartbeats 4000000
namespace K5
open PySem L2
local macro_rules | `(tactic| walk_at "rd1") => `(tactic| first
  | refine ⟨_, _, rfl, rfl, ?_⟩
  | refine ⟨_, _, _, _, rfl, rfl, SqL.of (by assumption), rfl, ?_⟩
  | refine ⟨_, _, _, _, rfl, rfl, (by assumption), rfl, ?_⟩
  | refine .inl ⟨_, rfl, ?_⟩
  | refine ⟨_, rfl, ?_⟩
  | refine ⟨(by unfold CMul; omega), ?_⟩
  | refine ⟨(by unfold CPow; omega), ?_⟩
  | refine ⟨(by (try dsimp only); omega), ?_⟩
  | refine ⟨(by unfold CDiv; omega), ?_⟩
  | fail "rd1")
local macro_rules | `(tactic| walk_at "rd") => `(tactic| repeat' (walk_at "rd1"))
open Own
section
variable {P : Program} {w : World} {K : PySem.W.Frag} {mg : Str → Option Value} {base : Heap} {A : Ad}
def spLawT (K : PySem.W.Frag) (P1 : Addr) : Sp := fun vs H Q _ => ∃ (a : Addr) (ns : List Int), vs = [.ref a] ∧ SqL K H a (ns.map V.int) ∧ ns.length ≤ 63 ∧ LamX.Tabs (T1 P1) H ∧ ∀ H', Q (.bl true) H'
theorem ok_lawT (T : Txt K mg A) {oc kW doc pm ct : Value} {od an : Option Addr} {osl : Array (Option Value)} {cL P1 : Addr}
    (lk : K.lookup A.a_law = some ⟨oc, od, .func (PySem.W.fnOf "law" "law" (defArgs s_law) (defBody s_law) (defScope s_law) .none kW doc pm an (.ref cL) ct), osl⟩) (hcd : PySem.W.codeIn K (.ref cL) "law" = true)
    (TBL : LamX.TabB base mg cL P1) : FnOk P w K mg base CX0 12 A.a_law (PySem.W.fnOf "law" "law" (defArgs s_law) (defBody s_law) (defScope s_law) .none kW doc pm an (.ref cL) ct) P_law (spLawT K P1) := by
  have G__law_fresh : FnOk P w K mg base CX0 1 A.a__law_fresh A.d__law_fresh P__law_fresh (spFresh K) := ok_fresh T
  have G__law_take : FnOk P w K mg base CX0 1 A.a__law_take A.d__law_take P__law_take spTake := ok_take T
  have G__law_one : FnOk P w K mg base CX0 2 A.a__law_one A.d__law_one P__law_one (spOne K) := ok_one T
  have G__law_names : FnOk P w K mg base CX0 3 A.a__law_names A.d__law_names P__law_names (spNames K) := ok_names T
  have G__law_hung : FnOk P w K mg base CX0 3 A.a__law_hung A.d__law_hung P__law_hung (spHung K) := ok_hung T
  have G__law_due : FnOk P w K mg base CX0 3 A.a__law_due A.d__law_due P__law_due (spDue P w K) := ok_due T
  have G_Hanging___init__ : FnOk P w K mg base (L2.CX P w) 6 A.a_Hanging___init__ A.d_Hanging___init__ P_Hanging___init__ (fun vs H Q E => spHInit A.a_Hanging vs H Q E ∨ spHInitX P w K A.a_BadRow A.a_Round vs H Q E) := fnOr (fnLift ((ok_hinit T).mono (by omega))) (ok_hinitX T)
  have G_Book___init__ : FnOk P w K mg base (L2.CX P w) 6 A.a_Book___init__ A.d_Book___init__ P_Book___init__ (fun vs H Q E => spBInit K A.a_Book vs H Q E ∨ spBInitX P w K A.a_BadRow A.a_Round vs H Q E) := fnOr (fnLift ((ok_binit T).mono (by omega))) (ok_binitX T)
  have G__law_same : FnOk P w K mg base CX0 4 A.a__law_same A.d__law_same P__law_same (spSame K 3) := (ok_same T 3).mono (by omega)
  obtain ⟨ocT, odT, kVT, docT, pmT, anT, cdT, ctT, oslT, eT, lkT, hcT⟩ := T.f__law_tried.ex
  have hbT := T.b__law_tried
  rw [eT] at lkT hbT
  refine fn_of lk hcd sc_law (fun vs H Q E h => ?_) (fun A' outer s H vs Q E hr h => ?_)
  · obtain ⟨a, ns, rfl, _⟩ := h
    rfl
  · obtain ⟨a, ns, rfl, hS, hlen, hT, k⟩ := h
    refine ⟨_, PSs.nox (pss_cons (ps_set (i := 1) sc_law.nd rfl (Or.inl rfl) (pe_call G__law_fresh (hr.mono (by omega)) (by rfl) T.g__law_fresh T.f__law_fresh.kp T.b__law_fresh .nil pass0 (pa_cons (pv 0) pa_nil)))
 (pss_cons (ps_for PassesOwn.never rfl (pi_range1 (by rfl) T.range (pa_cons pe_int pa_nil)) (pg_name (i := 2) sc_law.nd rfl (Or.inl rfl))
 (pss_cons (ps_set (i := 3) sc_law.nd rfl (Or.inl rfl) (pe_call G__law_names (hr.mono (by omega)) (by rfl) T.g__law_names T.f__law_names.kp T.b__law_names .nil pass0 (pa_cons (pv 1) (pa_cons (pe_op op_add pe_int (pe_call G__law_take (hr.mono (by omega)) (by rfl) T.g__law_take T.f__law_take.kp T.b__law_take .nil pass0 (pa_cons (pv 1) (pa_cons pe_int pa_nil)))) pa_nil))))
 (pss_cons (ps_asg (pe_tup (pa_cons (pe_call G__law_hung (hr.mono (by omega)) (by rfl) T.g__law_hung T.f__law_hung.kp T.b__law_hung .nil pass0 (pa_cons (pv 1) (pa_cons (pv 3) pa_nil))) (pa_cons (pe_lst pa_nil) (pa_cons (Own.pe_either pe_dnewK (Own.pe_mix (P := P) (w := w) rfl rfl pe_dnewK)) pa_nil)))) (pg_tup (by rfl) (pgs_cons (pg_name (i := 4) sc_law.nd rfl (Or.inr rfl)) (pgs_cons (pg_name (i := 5) sc_law.nd rfl (Or.inl rfl)) (pgs_cons (pg_name (i := 6) sc_law.nd rfl (Or.inr rfl)) pgs_nil)))))
 (pss_cons (ps_for PassesOwn.never rfl (pi_range1 (by rfl) T.range (pa_cons (pe_call G__law_take (hr.mono (by omega)) (by rfl) T.g__law_take T.f__law_take.kp T.b__law_take .nil pass0 (pa_cons (pv 1) (pa_cons pe_int pa_nil))) pa_nil)) (pg_name (i := 7) sc_law.nd rfl (Or.inl rfl))
 (pss_cons (ps_set (i := 8) sc_law.nd rfl (Or.inl rfl) (pe_call G__law_one (hr.mono (by omega)) (by rfl) T.g__law_one T.f__law_one.kp T.b__law_one .nil pass0 (pa_cons (pv 1) (pa_cons (pv 3) pa_nil))))
 (pss_cons (ps_set (i := 9) sc_law.nd rfl (Or.inl rfl) (pe_lst (pa_cons pe_str (pa_cons pe_str (pa_cons pe_non (pa_cons pe_int (pa_cons (pe_lst pa_nil) (pa_cons (pe_tup (pa_cons pe_str (pa_cons pe_int pa_nil))) (pa_cons pe_bl (pa_cons pe_str pa_nil))))))))))
 (pss_one (ps_dput (hu_of hr) (pv 4) (pv 8) (pe_call G__law_one (hr.mono (by omega)) (by rfl) T.g__law_one T.f__law_one.kp T.b__law_one .nil pass0 (pa_cons (pv 1) (pa_cons (pe_op op_cat (pe_op op_cat (pv 3) (pv 3)) (pe_lst (pa_cons (pe_call G__law_one (hr.mono (by omega)) (by rfl) T.g__law_one T.f__law_one.kp T.b__law_one .nil pass0 (pa_cons (pv 1) (pa_cons (pv 9) pa_nil))) pa_nil))) pa_nil))) rfl)))))
 (pss_cons (ps_set (i := 10) sc_law.nd rfl (Or.inl rfl) (pe_call G__law_one (hr.mono (by omega)) (by rfl) T.g__law_one T.f__law_one.kp T.b__law_one .nil pass0 (pa_cons (pv 1) (pa_cons (pe_lst (pa_cons pe_str (pa_cons pe_str (pa_cons pe_str (pa_cons pe_int (pa_cons pe_non (pa_cons (pe_tup (pa_cons pe_str pa_nil)) pa_nil))))))) pa_nil))))
 (pss_cons (ps_if (PW.pt (pw_and (pt_cmpR op_eq (pe_call G__law_take (hr.mono (by omega)) (by rfl) T.g__law_take T.f__law_take.kp T.b__law_take .nil pass0 (pa_cons (pv 1) (pa_cons pe_int pa_nil))) pe_int (nomark _)) (pw_and1 (PW.pt (pw_or (pt_val (pe_callB call_isi (by rfl) T.isinstance (by decide +kernel) (pa_cons (pv 10) (pa_cons (pe_bltn (v := .ty "str") (u := .type "str") (by rfl) T.str (by decide +kernel) rfl) pa_nil)))) (pw_or1 (pt_cmpR (op_notInD (un65 hr)) (pv 10) (Own.pe_listVals rfl (by rfl) T.list (pv 4)) (by rfl))))))))
 (pss_one (ps_set (i := 4) sc_law.nd rfl (Or.inr rfl) (pe_callTy (Own.call_dictM rfl (Own.un2h hr)) (by rfl) T.dict (by decide +kernel) (pa_cons (pe_op op_cat (LiI.pe_listItems rfl (pv 4) (by rfl) T.list (by decide +kernel)) (pe_lst (pa_cons (pe_tup (pa_cons (pv 10) (pa_cons pe_str pa_nil))) pa_nil))) pa_nil))))
 pss_nil)
 (pss_cons (ps_if (pt_not (pt_val (pe_call G__law_same (hr.mono (by omega)) (by rfl) T.g__law_same T.f__law_same.kp T.b__law_same .nil pass0 (pa_cons (LamX.pe_lamcall (k := 9) (T := T1 P1) (by rfl) T.g__law_tried T.f__law_tried.kp lkT hcT hbT sc__law_tried rfl (Or.inl rfl) (tried_gives T) TBL rfl inL1 uqL1 (hr.mono (by omega)) (show LamX.LamS (defScope s_law) _ from LamX.lamS_by (by decide +kernel)) rfl (fun _ _ _ _ _ => rfl) (fun A2 o2 s2 H2 E2 f2 c2 hr2 => pe_make T.mkH G_Hanging___init__ (hr2.mono (by omega)) (by rfl) T.g_Hanging T.b_Hanging___init__ .nil (passes_call (takes_of rfl rfl rfl rfl) (fun _ _ _ _ h => h)) (pa_cons (Own.pe_either (pv 4) (Own.pe_mix (P := P) (w := w) rfl rfl (pv 4))) pa_nil))) (pa_cons (pe_call G__law_due (hr.mono (by omega)) (by rfl) T.g__law_due T.f__law_due.kp T.b__law_due .nil pass0 (pa_cons (Own.pe_either (pv 4) (Own.pe_mix (P := P) (w := w) rfl rfl (pv 4))) (pa_cons (pe_lst pa_nil) pa_nil))) pa_nil)))))
 (pss_one (ps_ret pe_bl))
 pss_nil)
 (pss_cons (ps_lock (ps_for PassesOwn.never rfl (Own.pi_mx (P := P) (w := w) rfl rfl (pv 4)) (pg_name (i := 8) sc_law.nd rfl (Or.inl rfl))
 (pss_cons (ps_asg (pe_call G__law_take (hr.mono (by omega)) (by rfl) T.g__law_take T.f__law_take.kp T.b__law_take .nil pass0 (pa_cons (pv 1) (pa_cons pe_int pa_nil))) (pg_sub (pv 6) (pv 8) (Own.set_mx (P := P) (w := w) (K := K) rfl rfl rfl (hu_of hr))))
 (pss_one (ps_if (pt_cmpR op_eq (pe_call G__law_take (hr.mono (by omega)) (by rfl) T.g__law_take T.f__law_take.kp T.b__law_take .nil pass0 (pa_cons (pv 1) (pa_cons pe_int pa_nil))) pe_int (nomark _))
 (pss_one (ps_asg (pe_tup (pa_cons (pe_op op_cat (pv 5) (pe_lst (pa_cons (pv 8) pa_nil))) (pa_cons (pe_call G__law_one (hr.mono (by omega)) (by rfl) T.g__law_one T.f__law_one.kp T.b__law_one .nil pass0 (pa_cons (pv 1) (pa_cons (pe_lst (pa_cons (pe_un un_neg pe_int) (pa_cons pe_non (pa_cons pe_str (pa_cons pe_bl (pa_cons (pe_lst pa_nil) (pa_cons (pe_un un_neg pe_int) pa_nil))))))) pa_nil))) pa_nil))) (pg_tup (by rfl) (pgs_cons (pg_name (i := 5) sc_law.nd rfl (Or.inl rfl)) (pgs_cons (pg_sub (pv 6) (pv 8) (Own.set_mx (P := P) (w := w) (K := K) rfl rfl rfl (hu_of hr))) pgs_nil)))))
 pss_nil)))))
 (pss_cons (ps_set (i := 11) sc_law.nd rfl (Or.inr rfl) (pe_callTy (Own.cr_either (call_dictP rfl) (Own.call_dictM rfl (Own.un2h hr))) (by rfl) T.dict (by decide +kernel) (pa_cons (pe_lock (pe_lc (own := [("_law_name", 8)]) (g := gName 8) (by rfl) sc_law.nd (Own.pi_mx (P := P) (w := w) rfl rfl (pv 4)) (blkOk_by (N := N_law) (sc := defScope s_law) (by decide +kernel)) (fun _ _ _ _ _ => pg_name (i := 8) sc_law.nd rfl (Or.inl rfl)) (fun _ _ _ _ _ => pts_nil) (fun _ _ _ _ _ => (pe_tup (pa_cons (pv 8) (pa_cons (pe_tup (pa_cons (Own.pe_rget (P := P) (w := w) (K := K) rfl rfl rfl (hu_of hr) (pv 4) (pv 8) (fun _ _ => rfl)) (pa_cons (Own.pe_rget (P := P) (w := w) (K := K) rfl rfl rfl (hu_of hr) (pv 6) (pv 8) (fun _ _ => rfl)) pa_nil))) pa_nil)))))) pa_nil)))
 (pss_cons (ps_if (pt_not (pt_val (pe_call G__law_same (hr.mono (by omega)) (by rfl) T.g__law_same T.f__law_same.kp T.b__law_same .nil pass0 (pa_cons (LamX.pe_lamcall (k := 9) (T := T1 P1) (by rfl) T.g__law_tried T.f__law_tried.kp lkT hcT hbT sc__law_tried rfl (Or.inl rfl) (tried_gives T) TBL rfl inL1 uqL1 (hr.mono (by omega)) (show LamX.LamS (defScope s_law) _ from LamX.lamS_by (by decide +kernel)) rfl (fun _ _ _ _ _ => rfl) (fun A2 o2 s2 H2 E2 f2 c2 hr2 => pe_make T.mkB G_Book___init__ (hr2.mono (by omega)) (by rfl) T.g_Book T.b_Book___init__ .nil (passes_call (takes_of rfl rfl rfl rfl) (fun _ _ _ _ h => h)) (pa_cons (Own.pe_either (pv 11) (Own.pe_mix (P := P) (w := w) rfl rfl (pv 11))) pa_nil))) (pa_cons (pe_call G__law_due (hr.mono (by omega)) (by rfl) T.g__law_due T.f__law_due.kp T.b__law_due .nil pass0 (pa_cons (Own.pe_either (pv 4) (Own.pe_mix (P := P) (w := w) rfl rfl (pv 4))) (pa_cons (pv 5) pa_nil))) pa_nil)))))
 (pss_one (ps_ret pe_bl))
 pss_nil)
 (pss_cons (ps_set (i := 8) sc_law.nd rfl (Or.inl rfl) (pe_call G__law_one (hr.mono (by omega)) (by rfl) T.g__law_one T.f__law_one.kp T.b__law_one .nil pass0 (pa_cons (pv 1) (pa_cons (pv 3) pa_nil))))
 (pss_cons (ps_set (i := 9) sc_law.nd rfl (Or.inl rfl) (pe_call G__law_one (hr.mono (by omega)) (by rfl) T.g__law_one T.f__law_one.kp T.b__law_one .nil pass0 (pa_cons (pv 1) (pa_cons (pe_lst (pa_cons pe_non (pa_cons pe_int (pa_cons pe_str (pa_cons (pe_tup (pa_cons pe_str pa_nil)) (pa_cons (pe_tup (pa_cons pe_str (pa_cons pe_int (pa_cons pe_int pa_nil)))) (pa_cons (pe_lst pa_nil) (pa_cons (Own.pe_either pe_dnewK (Own.pe_mix (P := P) (w := w) rfl rfl pe_dnewK)) (pa_cons (pe_lst (pa_cons (pe_lst (pa_cons pe_str (pa_cons pe_int pa_nil))) pa_nil)) pa_nil))))))))) pa_nil))))
 (pss_cons (ps_set (i := 11) sc_law.nd rfl (Or.inr rfl) (pe_callTy (call_dictP rfl) (by rfl) T.dict (by decide +kernel) (pa_cons (pe_lc (own := [("_law_x", 12)]) (g := gName 12) (by rfl) sc_law.nd (pi_list (pv 3)) (blkOk_by (N := N_law) (sc := defScope s_law) (by decide +kernel)) (fun _ _ _ _ _ => pg_name (i := 12) sc_law.nd rfl (Or.inl rfl)) (fun _ _ _ _ _ => pts_nil) (fun _ _ _ _ _ => (pe_tup (pa_cons (pv 12) (pa_cons (pe_tup (pa_cons pe_str (pa_cons pe_int pa_nil))) pa_nil))))) pa_nil)))
 (pss_cons (ps_dput (hu_of hr) (pv 11) (pv 8) (pv 9) rfl)
 (pss_one (ps_if (pt_not (pt_val (pe_call G__law_same (hr.mono (by omega)) (by rfl) T.g__law_same T.f__law_same.kp T.b__law_same .nil pass0 (pa_cons (LamX.pe_lamcall (k := 9) (T := T1 P1) (by rfl) T.g__law_tried T.f__law_tried.kp lkT hcT hbT sc__law_tried rfl (Or.inl rfl) (tried_gives T) TBL rfl inL1 uqL1 (hr.mono (by omega)) (show LamX.LamS (defScope s_law) _ from LamX.lamS_by (by decide +kernel)) rfl (fun _ _ _ _ _ => rfl) (fun A2 o2 s2 H2 E2 f2 c2 hr2 => pe_make T.mkB G_Book___init__ (hr2.mono (by omega)) (by rfl) T.g_Book T.b_Book___init__ .nil (passes_call (takes_of rfl rfl rfl rfl) (fun _ _ _ _ h => h)) (pa_cons (Own.pe_either (pv 11) (Own.pe_mix (P := P) (w := w) rfl rfl (pv 11))) pa_nil))) (pa_cons (pe_tup (pa_cons pe_str (pa_cons (pv 8) pa_nil))) pa_nil)))))
 (pss_one (ps_ret pe_bl))
 pss_nil))))))))))))))))
 (pss_one (ps_ret pe_bl)))), ?_⟩
    refine ⟨_, rfl, a, ns, rfl, hS, fun st c H1 sm S1 => ?_⟩
    have hT1 : LamX.Tabs (T1 P1) H1 := hT.ext fun b o e => (er_same _ _) _ _ (sm b o e)
    refine ⟨8, rfl, by decide, by decide, for_range (lo := 0) (n := (8 : Int).toNat) (fun i σ' H' => ∃ v2 v3 v4 v5 v6 v7 v8 v9 v10 v11 v12, σ' = [some (.ref a), some (.ref st), v2, v3, v4, v5, v6, v7, v8, v9, v10, v11, v12] ∧ BdT (T1 P1) st c (4000 * (i : Int)) H')
      ⟨_, _, _, _, _, _, _, _, _, _, _, rfl, by simpa using S1, hT1⟩ ?_ (fun σ' H' _ => k H')⟩
    clear hS sm S1 hT1 hT
    rintro i σ' H0 hi ⟨v2, v3, v4, v5, v6, v7, v8, v9, v10, v11, v12, rfl, B0⟩
    have hi8 : (i : Int) < 8 := by
      have : i < 8 := hi
      omega
    -- names
    refine ⟨_, rfl, _, rfl, st, c, 5, _, rfl, B0.sta, by omega, by omega, by omega, fun r o hr0 hr1 S1 => ⟨_, _, rfl, rfl, ?_⟩⟩
    have B1 := B0.gs (Gs.of_upd S1)
    generalize upd H0 st o = H1 at B1 ⊢
    clear S1 B0
    refine ⟨st, c, _, (1 + r).toNat, by rw [show (((1 + r).toNat : Nat) : Int) = 1 + r by omega]; rfl, B1.sta, by omega, by omega, fun pn ns H2 hnd hpool hnl g2 hn _ => ?_⟩
    have B2 := B1.gs g2
    have nl5 : ns.length ≤ 5 := by omega
    have nl1 : 1 ≤ ns.length := by omega
    have nok : ∀ s ∈ ns, PyData.strOk s = true := fun s h => pool_ok s (hpool s h)
    clear g2 B1 hnl hr0 hr1
    -- rows
    refine ⟨_, rfl, _, rfl, st, c, pn, _, _, rfl, B2.sta, by omega, SqL.of hn, by omega, hnd, nok, fun pr rows H3 hpr tree g3 hr3 _ => ?_⟩
    have rN : (ksR rows).Nodup := hpr.nodup_iff.mpr hnd
    obtain ⟨hk, ehk⟩ := rows_fn rN
    generalize ksR rows = rs at hpr rN ehk
    subst ehk
    have hn := g3.same _ _ hn
    have B3 := B2.gs g3
    rw [kvR_F] at hr3
    have hks : ∀ n ∈ rs, PyData.strOk (hk n) = true := fun n m => by
      obtain ⟨i, hi, rfl⟩ := List.getElem_of_mem m
      rcases tree i rs[i] (hk rs[i]) (by unfold rowsF; rw [List.getElem?_map, List.getElem?_eq_getElem hi]; rfl) with e | e
      · rw [e]; decide +kernel
      · have e2 : hk rs[i] ∈ ksR (rowsF rs hk) := by
          obtain ⟨z, mz, ez⟩ := List.mem_map.mp e
          exact List.mem_map.mpr ⟨z, List.mem_of_mem_take mz, ez⟩
        rw [ksR_F] at e2
        exact nok _ (hpr.mem_iff.mp e2)
    clear g3 B2 tree
    refine ⟨Nat.zero_le _, fun bl nbl => ?_⟩
    have s1 := Same.new nbl (o := .lst [])
    have hbl : er (upd H3 bl (.lst [])) st bl = some (.lst []) := er_of (B3.sta.ne nbl) upd_same
    have hn := er_mono (st := st) s1 _ _ hn
    have hr3 := er_mono (st := st) s1 _ _ hr3
    have B3 := B3.same s1
    refine cast_heap (b := upd H3 bl (.lst [])) rfl ?_
    generalize upd H3 bl (.lst []) = H4 at hbl hn hr3 B3 ⊢
    clear s1 nbl
    refine .inr fun pw npw => ⟨pw, [], rfl, upd_same, [], rfl, fun ow hM => ?_⟩
    have eow : ow = MxO P w pw [] := mdic_strs hM
    clear hM
    subst eow
    have s1 : Same H4 (upd (upd H4 pw (.dK [])) pw (MxO P w pw [])) := fun b u e => by rw [upd_ne (ne_of_none e npw), upd_ne (ne_of_none e npw)]; exact e
    have hw0 : er (upd (upd H4 pw (.dK [])) pw (MxO P w pw [])) st pw = some (MxO P w pw []) := er_of (B3.sta.ne npw) upd_same
    have hbl := er_mono (st := st) s1 _ _ hbl
    have hn := er_mono (st := st) s1 _ _ hn
    have hr3 := er_mono (st := st) s1 _ _ hr3
    have B3 := B3.same s1
    refine cast_heap (b := upd (upd H4 pw (.dK [])) pw (MxO P w pw [])) rfl ?_
    generalize upd (upd H4 pw (.dK [])) pw (MxO P w pw []) = H5 at hbl hn hr3 hw0 B3 ⊢
    clear s1 npw
    refine ⟨by show 3 ≤ sizeLine; decide, fun tt ntt => ?_⟩
    have s1 := Same.new ntt (o := .tup [.ref pr, .ref bl, .ref pw])
    refine ⟨tt, _, rfl, SqT.of upd_same, rfl, _, _, rfl, _, _, rfl, _, _, rfl, rfl, ?_⟩
    have hbl := er_mono (st := st) s1 _ _ hbl
    have hn := er_mono (st := st) s1 _ _ hn
    have hr3 := er_mono (st := st) s1 _ _ hr3
    have hw0 := er_mono (st := st) s1 _ _ hw0
    have B3 := B3.same s1
    refine cast_heap (b := upd H5 tt (.tup [.ref pr, .ref bl, .ref pw])) rfl ?_
    generalize upd H5 tt (.tup [.ref pr, .ref bl, .ref pw]) = H6 at hbl hn hr3 hw0 B3 ⊢
    clear s1 ntt
    dsimp only [List.set]
    have F6 : F7 P w K pn pr bl pw ns rs (fun n => .str (hk n)) (fun n => .str (hk n)) (er H6 st) := ⟨hn, hr3, hbl, hw0, fun n m => ⟨.str _, .str _ (hks n m)⟩⟩
    clear hn hr3 hbl hw0
    -- bent
    refine ⟨_, rfl, st, c, 4, _, rfl, B3.sta, by omega, by omega, by omega, fun q o hq0 hq1 S1 => ?_⟩
    have g6 := Gs.of_upd S1
    have F6 := F6.up g6.same
    have B6 := B3.gs g6
    generalize upd H6 st o = H7 at F6 B6 ⊢
    clear B3 g6 S1
    refine ⟨q, rfl, by omega, by omega, for_range (lo := 0) (n := q.toNat) (fun j σ' H' => ∃ x7 x8 x9 vf dv, σ' = [some (.ref a), some (.ref st), some (.int (0 + (i : Int))), some (.ref pn), some (.ref pr), some (.ref bl), some (.ref pw), x7, x8, x9, v10, v11, v12] ∧ BdT (T1 P1) st c (4000 * (i : Int) + 210 + 4 * (j : Int)) H' ∧ F7 P w K pn pr bl pw ns rs vf dv (er H' st))
      ⟨_, _, _, _, _, rfl, B6.le (by omega) (by omega), F6⟩ ?_ (fun σ' H' z => ?_)⟩
    · clear B6 F6
      --[[
      rintro j σ' H8 hj ⟨x7, x8, x9, vf, dv, rfl, B8, F8⟩
      have hj3 : (j : Int) < 4 := by omega
      refine ⟨_, rfl, _, rfl, st, c, pn, _, _, rfl, B8.sta, by omega, SqL.of F8.n, by rw [List.length_map]; omega, by rw [List.length_map]; omega, fun m v H9 hv g9 => ?_⟩
      obtain ⟨hm, rfl⟩ := str_at hv
      have F9 := F8.up g9.same
      have B9 := B8.gs g9
      clear F8 B8 g9 hv
      refine ⟨Nat.zero_le _, fun e1 ne1 => ?_⟩
      have s1 := Same.new ne1 (o := .lst [])
      have he1 : er (upd H9 e1 (.lst [])) st e1 = some (.lst []) := er_of (B9.sta.ne ne1) upd_same
      have F9 := F9.up (er_mono (st := st) s1)
      have B9 := B9.same s1
      refine cast_heap (b := upd H9 e1 (.lst [])) rfl ?_
      generalize upd H9 e1 (.lst []) = H10 at he1 F9 B9 ⊢
      clear s1 ne1
      refine ⟨by show 2 ≤ sizeLine; decide, fun t1 nt1 => ?_⟩
      have s1 := Same.new nt1 (o := .tup [.str "clock", .int 0])
      have ht1 : er (upd H10 t1 (.tup [.str "clock", .int 0])) st t1 = some (.tup [.str "clock", .int 0]) := er_of (B9.sta.ne nt1) upd_same
      have he1 := er_mono (st := st) s1 _ _ he1
      have F9 := F9.up (er_mono (st := st) s1)
      have B9 := B9.same s1
      refine cast_heap (b := upd H10 t1 (.tup [.str "clock", .int 0])) rfl ?_
      generalize upd H10 t1 (.tup [.str "clock", .int 0]) = H11 at he1 ht1 F9 B9 ⊢
      clear s1 nt1
      refine ⟨by show 8 ≤ sizeLine; decide, fun lo nlo => ?_⟩
      have s1 := Same.new nlo (o := .lst [.str "nobody", .str "", .non, .int 5, .ref e1, .ref t1, .bl true, .str "Clock"])
      have hlo : er (upd H11 lo (.lst [.str "nobody", .str "", .non, .int 5, .ref e1, .ref t1, .bl true, .str "Clock"])) st lo = some (.lst [.str "nobody", .str "", .non, .int 5, .ref e1, .ref t1, .bl true, .str "Clock"]) := er_of (B9.sta.ne nlo) upd_same
      have he1 := er_mono (st := st) s1 _ _ he1
      have ht1 := er_mono (st := st) s1 _ _ ht1
      have F9 := F9.up (er_mono (st := st) s1)
      have B9 := B9.same s1
      refine cast_heap (b := upd H11 lo (.lst [.str "nobody", .str "", .non, .int 5, .ref e1, .ref t1, .bl true, .str "Clock"])) rfl ?_
      generalize upd H11 lo (.lst [.str "nobody", .str "", .non, .int 5, .ref e1, .ref t1, .bl true, .str "Clock"]) = H12 at he1 ht1 hlo F9 B9 ⊢
      clear s1 nlo
      dsimp only [List.set]
      refine ⟨_, rfl, _, rfl, _, rfl, pn, pn, _, _, rfl, rfl, (er_some F9.n).2, (er_some F9.n).2, by rw [List.length_map]; exact Nat.le_trans (show ns.length + ns.length ≤ 10 by omega) (by decide), fun q1 nq1 => ?_⟩
      have s1 := Same.new nq1 (o := .lst (ns.map V.str ++ ns.map V.str))
      have hq1 : er (upd H12 q1 (.lst (ns.map V.str ++ ns.map V.str))) st q1 = some (.lst (ns.map V.str ++ ns.map V.str)) := er_of (B9.sta.ne nq1) upd_same
      have he1 := er_mono (st := st) s1 _ _ he1
      have ht1 := er_mono (st := st) s1 _ _ ht1
      have hlo := er_mono (st := st) s1 _ _ hlo
      have F9 := F9.up (er_mono (st := st) s1)
      have B9 := B9.same s1
      refine cast_heap (b := upd H12 q1 (.lst (ns.map V.str ++ ns.map V.str))) rfl ?_
      generalize upd H12 q1 (.lst (ns.map V.str ++ ns.map V.str)) = H13 at he1 ht1 hlo hq1 F9 B9 ⊢
      clear s1 nq1
      refine ⟨_, rfl, _, rfl, st, c, lo, _, _, rfl, B9.sta, by omega, SqL.of hlo, by show 0 < 8; decide, by show 8 < _; decide, fun m2 u H14 hu g => ?_⟩
      have he1 := g.same _ _ he1
      have ht1 := g.same _ _ ht1
      have hq1 := g.same _ _ hq1
      have F9 := F9.up g.same
      have B9 := B9.gs g
      clear g hlo
      refine ⟨by show 1 ≤ sizeLine; decide, fun q2 nq2 => ?_⟩
      have s1 := Same.new nq2 (o := .lst [u])
      have hq2 : er (upd H14 q2 (.lst [u])) st q2 = some (.lst [u]) := er_of (B9.sta.ne nq2) upd_same
      have he1 := er_mono (st := st) s1 _ _ he1
      have ht1 := er_mono (st := st) s1 _ _ ht1
      have hq1 := er_mono (st := st) s1 _ _ hq1
      have F9 := F9.up (er_mono (st := st) s1)
      have B9 := B9.same s1
      refine cast_heap (b := upd H14 q2 (.lst [u])) rfl ?_
      generalize upd H14 q2 (.lst [u]) = H15 at he1 ht1 hq1 hq2 F9 B9 ⊢
      clear s1 nq2
      have l3 : (ns.map V.str ++ ns.map V.str ++ [u]).length ≤ 11 := by rw [List.length_append, List.length_append, List.length_map, List.length_singleton]; omega
      refine ⟨q1, q2, _, _, rfl, rfl, (er_some hq1).2, (er_some hq2).2, by rw [List.length_append, List.length_map]; exact Nat.le_trans (show ns.length + ns.length + 1 ≤ 11 by omega) (by decide), fun q3 nq3 => ?_⟩
      have s1 := Same.new nq3 (o := .lst (ns.map V.str ++ ns.map V.str ++ [u]))
      have hq3 : er (upd H15 q3 (.lst (ns.map V.str ++ ns.map V.str ++ [u]))) st q3 = some (.lst (ns.map V.str ++ ns.map V.str ++ [u])) := er_of (B9.sta.ne nq3) upd_same
      have he1 := er_mono (st := st) s1 _ _ he1
      have ht1 := er_mono (st := st) s1 _ _ ht1
      have F9 := F9.up (er_mono (st := st) s1)
      have B9 := B9.same s1
      refine cast_heap (b := upd H15 q3 (.lst (ns.map V.str ++ ns.map V.str ++ [u]))) rfl ?_
      generalize upd H15 q3 (.lst (ns.map V.str ++ ns.map V.str ++ [u])) = H16 at he1 ht1 hq3 F9 B9 ⊢
      clear s1 nq3 hq1 hq2
      refine ⟨st, c, q3, _, _, rfl, B9.sta, by omega, SqL.of hq3, by rw [List.length_append, List.length_singleton]; omega, by omega, fun m3 v H17 hv g => ?_⟩
      have he1 := g.same _ _ he1
      have ht1 := g.same _ _ ht1
      have F9 := F9.up g.same
      have B9 := B9.gs g
      clear g hq3
      obtain ⟨d, hd, od⟩ : ∃ d, Dp K (er H17 st) v d ∧ OkV d := by
        have mv := List.mem_of_getElem? hv
        rcases List.mem_append.mp mv with mv | mv
        · obtain ⟨n, mn, rfl⟩ : ∃ n ∈ ns, V.str n = v := by
            rcases List.mem_append.mp mv with mv | mv
            · exact List.mem_map.mp mv
            · exact List.mem_map.mp mv
          exact ⟨_, .str _, .str _ (nok n mn)⟩
        · rw [List.mem_singleton.mp mv]
          exact odd7 he1 ht1 hu
      have mr : ns[m] ∈ rs := hpr.mem_iff.mpr (List.getElem_mem hm)
      have rl : rs.length = ns.length := hpr.length_eq
      refine ⟨_, rfl, _, rfl, pr, _, rfl, .inl ⟨_, .inr ns[m], (er_some F9.r).2, rfl, by rw [kvF_len]; exact Nat.lt_of_le_of_lt (show rs.length ≤ 5 by omega) (by decide), rfl⟩, ?_⟩
      rw [putK_F mr]
      have r0 := er_some F9.r
      have bt : But pr H17 (upd H17 pr (.dK (kvF rs fun n => if n = ns[m] then v else vf n))) := But.upd
      have sk : SeqKept (er H17 st) (er (upd H17 pr (.dK (kvF rs fun n => if n = ns[m] then v else vf n))) st) := fun b u e z => by
        rw [er_ne (er_some e).1]
        refine bt b u (er_some e).2 fun w => ?_
        rw [w, F9.r] at e
        cases e
        cases z
      refine ⟨_, _, _, fun n => if n = ns[m] then v else vf n, fun n => if n = ns[m] then d else dv n, rfl, (B9.but r0.2 notSt_dK bt).le (by omega) (by omega), ⟨sk _ _ F9.n rfl, er_of r0.1 upd_same, sk _ _ F9.b rfl, ?_, fun n mn => ?_⟩⟩
      · rw [er_ne (er_some F9.hw).1]
        exact bt _ _ (er_some F9.hw).2 fun z => by have e1 := F9.hw; rw [z, F9.r] at e1; cases e1
      · by_cases cn : n = ns[m]
        · rw [if_pos cn, if_pos cn]; exact ⟨dp_kept sk _ _ hd, od⟩
        · rw [if_neg cn, if_neg cn]; exact ⟨dp_kept sk _ _ (F9.v n mn).1, (F9.v n mn).2⟩
      --]]
    · obtain ⟨x7, x8, x9, vf, dv, rfl, B8, F8⟩ := z
      clear F6 B6
      have ql : ((q.toNat : Nat) : Int) < 4 := by omega
      have rl : rs.length = ns.length := hpr.length_eq
      have B8 := B8.le (b' := 4000 * (i : Int) + 240) (by omega) (by omega)
      clear hq0 hq1 ql
      refine ⟨_, rfl, by show 1 ≤ sizeLine; decide, fun tk ntk => ?_⟩
      have s1 := Same.new ntk (o := .tup [.str "a"])
      have htk : er (upd H' tk (.tup [.str "a"])) st tk = some (.tup [.str "a"]) := er_of (B8.sta.ne ntk) upd_same
      have F8 := F8.up (er_mono (st := st) s1)
      have B8 := B8.same s1
      refine cast_heap (b := upd H' tk (.tup [.str "a"])) rfl ?_
      generalize upd H' tk (.tup [.str "a"]) = H9 at htk F8 B8 ⊢
      clear s1 ntk
      refine ⟨by show 6 ≤ sizeLine; decide, fun lk1 nlk => ?_⟩
      have s1 := Same.new nlk (o := .lst [.str "clock", .str "", .str "A", .int 5, .non, .ref tk])
      have hlk : er (upd H9 lk1 (.lst [.str "clock", .str "", .str "A", .int 5, .non, .ref tk])) st lk1 = some (.lst [.str "clock", .str "", .str "A", .int 5, .non, .ref tk]) := er_of (B8.sta.ne nlk) upd_same
      have htk := er_mono (st := st) s1 _ _ htk
      have F8 := F8.up (er_mono (st := st) s1)
      have B8 := B8.same s1
      refine cast_heap (b := upd H9 lk1 (.lst [.str "clock", .str "", .str "A", .int 5, .non, .ref tk])) rfl ?_
      generalize upd H9 lk1 (.lst [.str "clock", .str "", .str "A", .int 5, .non, .ref tk]) = H10 at htk hlk F8 B8 ⊢
      clear s1 nlk
      refine ⟨st, c, lk1, _, _, rfl, B8.sta, by omega, SqL.of hlk, by show 0 < 6; decide, by show 6 < _; decide, fun mk kv H11 hkv g => ?_⟩
      have htk := g.same _ _ htk
      have F8 := F8.up g.same
      have B8 := B8.gs g
      clear g hlk
      obtain ⟨ky, oky, kat⟩ := key7 htk hkv
      clear hkv htk
      have KY : KyOk rs none := ⟨hpr.nodup_iff.mpr hnd, fun n m => ⟨pool_nm n (hpool n (hpr.mem_iff.mp m)), nok n (hpr.mem_iff.mp m)⟩, (fun k m => nomatch m), by omega⟩
      have KY2 : KyOk rs (some ky) := ⟨KY.nd, KY.nm, fun k m => by cases m; exact oky, KY.len⟩
      with_reducible refine joinS (fun σ' H' => ∃ p2 xs ko dv2, σ' = [some (.ref a), some (.ref st), some (.int (0 + (i : Int))), some (.ref pn), some (.ref p2), some (.ref bl), some (.ref pw), x7, x8, x9, some kv, v11, v12] ∧ BdT (T1 P1) st c (4000 * (i : Int) + 242) H' ∧ G7 P w K pn p2 bl pw ns rs xs ko dv2 (er H' st)) (fun nx hnx => ?_) (fun σ' H' z => ?_)
      ·
        --[[
        dsimp only [List.set]
        refine ⟨_, rfl, st, c, 4, _, rfl, B8.sta, by omega, by omega, by omega, fun q o hq0 hq1 S1 => ?_⟩
        have g6 := Gs.of_upd S1
        have F8 := F8.up g6.same
        have B8 := B8.gs g6
        have kat := fun x => (kat x).up fun a ys e => g6.same _ _ e
        generalize upd H11 st o = H12 at F8 B8 kat ⊢
        clear g6 S1
        have KH := er_some F8.r
        refine ⟨rfl, _, rfl, ite2 (fun c0 => ?_) (fun c0 => hnx _ _ ⟨pr, _, none, _, rfl, B8.le (by omega) (by omega), F8.g KY⟩)⟩
        have hnx0 := hnx _ _ ⟨pr, _, none, _, rfl, B8.le (b' := 4000 * (i : Int) + 242) (by omega) (by omega), F8.g KY⟩
        have dk : Dp K H12 kv (kdM ky) := dpSame (er_same _ _) (keyL_dp (keyAt_L (x := (ky, kv, V.non)) (kat .non)))
        have made : ∀ H13, Same H12 H13 → ((∀ s, ky ≠ .inl s) → ∀ n ∈ rs, PyData.eqv (dv n) (kdM ky) = false) → tAsg (tCB (fun zs H_1 Q => ∃ a ps xs, zs = [V.ref a] ∧ SqL K H_1 a (List.map V.ref ps) ∧ Paired (fun p (x : MK × V × V) => SqT K H_1 p [x.2.1, x.2.2] ∧ KeyL K H_1 x.2.1 x.1) ps xs ∧ (List.map (fun x => x.1) xs).Nodup ∧ ∀ (p : Addr), H_1 p = none → Q (V.ref p) (upd H_1 p (MxO P w p xs)))
            (tCons (tOp rCat (LiI.tListItems (tVar 4)) (tLst (tCons (tTup (tCons (tVar 10) (tCons (tC (V.str (Str.ofString "clock"))) tNil))) tNil))) tNil)) (gName 4) { nx := nx, rt := Q, bk := fun _ _ => True, ct := fun _ _ => True } [some (V.ref a), some (V.ref st), some (V.int (0 + (i : Int))), some (V.ref pn), some (V.ref pr), some (V.ref bl), some (V.ref pw), x7, x8, x9, some kv, v11, v12] H13 := fun H13 s13 ne => by
          have B9 := B8.same s13
          have F9 := F8.up (er_mono (st := st) s13)
          have kat := fun x => (kat x).up fun a ys e => er_mono (st := st) s13 _ _ e
          refine ⟨_, rfl, pr, _, rfl, (er_some F9.r).2, fun H14 pi ts k14 npi nts nin hpi hts => ?_⟩
          have s1 : Same H13 H14 := fun b o e => k14 b o e
          have mpi := B9.sta.ne npi
          have hpi : er H14 st pi = some (.lst (ts.map V.ref)) := er_of mpi hpi
          have B9 := B9.same s1
          have F9 := F9.up (er_mono (st := st) s1)
          have kat := fun x => (kat x).up fun a ys e => er_mono (st := st) s1 _ _ e
          clear s1 k14 nts nin npi
          refine ⟨_, rfl, by show 2 ≤ sizeLine; decide, fun tq ntq => ?_⟩
          have s1 := Same.new ntq (o := .tup [kv, .str "clock"])
          have htq := upd_same (H := H14) (a := tq) (o := .tup [kv, .str "clock"])
          have hpi := er_mono (st := st) s1 _ _ hpi
          have hts := paired_imp (fun t (q : Key × V) e => s1 _ _ e) hts
          have B9 := B9.same s1
          have F9 := F9.up (er_mono (st := st) s1)
          have kat := fun x => (kat x).up fun a ys e => er_mono (st := st) s1 _ _ e
          refine cast_heap (b := upd H14 tq (.tup [kv, .str "clock"])) rfl ?_
          generalize upd H14 tq (.tup [kv, .str "clock"]) = H15 at htq hpi hts F9 B9 kat ⊢
          clear s1 ntq
          refine ⟨by show 1 ≤ sizeLine; decide, fun lq nlq => ?_⟩
          have s1 := Same.new nlq (o := .lst [.ref tq])
          have hlq := upd_same (H := H15) (a := lq) (o := .lst [.ref tq])
          have htq := s1 _ _ htq
          have hpi := er_mono (st := st) s1 _ _ hpi
          have hts := paired_imp (fun t (q : Key × V) e => s1 _ _ e) hts
          have B9 := B9.same s1
          have F9 := F9.up (er_mono (st := st) s1)
          have kat := fun x => (kat x).up fun a ys e => er_mono (st := st) s1 _ _ e
          refine cast_heap (b := upd H15 lq (.lst [.ref tq])) rfl ?_
          generalize upd H15 lq (.lst [.ref tq]) = H16 at hlq htq hpi hts F9 B9 kat ⊢
          clear s1 nlq
          have tl : ts.length = rs.length := by rw [hts.length, kvF_len]
          refine ⟨pi, lq, _, _, rfl, rfl, (er_some hpi).2, hlq, by rw [List.length_map]; exact Nat.le_trans (show ts.length + 1 ≤ 6 by omega) (by decide), fun pc npc => ?_⟩
          have s1 := Same.new npc (o := .lst (ts.map V.ref ++ [.ref tq]))
          have hpc := upd_same (H := H16) (a := pc) (o := .lst (ts.map V.ref ++ [.ref tq]))
          have htq := s1 _ _ htq
          have hts := paired_imp (fun t (q : Key × V) e => s1 _ _ e) hts
          have B9 := B9.same s1
          have F9 := F9.up (er_mono (st := st) s1)
          have kat := fun x => (kat x).up fun a ys e => er_mono (st := st) s1 _ _ e
          refine cast_heap (b := upd H16 pc (.lst (ts.map V.ref ++ [.ref tq]))) rfl ?_
          generalize upd H16 pc (.lst (ts.map V.ref ++ [.ref tq])) = H17 at hpc htq hts F9 B9 kat ⊢
          clear s1 npc hlq hpi
          have kl : KeyL K H17 kv ky := keyAt_L (x := (ky, kv, V.non)) ((kat .non).up fun a ys e => (er_same _ _) _ _ e)
          refine ⟨pc, ts ++ [tq], _, rfl, SqL.of (by rw [hpc, List.map_append]; rfl), items7 hts htq kl, ?_, fun p2 np2 => ?_⟩
          · rw [List.map_append, map_fst3]
            exact KY2.nodup
          · have s1 := Same.new np2 (o := MxO P w p2 (rs.map (fun n => ((.inl n : MK), V.str n, vf n)) ++ [(ky, kv, V.str "clock")]))
            have hp2 : er (upd H17 p2 (MxO P w p2 (rs.map (fun n => ((.inl n : MK), V.str n, vf n)) ++ [(ky, kv, V.str "clock")]))) st p2 = some (MxO P w p2 (rs.map (fun n => ((.inl n : MK), V.str n, vf n)) ++ [(ky, kv, V.str "clock")])) := er_of (B9.sta.ne np2) upd_same
            exact hnx _ _ ⟨p2, _, some ky, _, rfl, (B9.same s1).le (by omega) (by omega), (F9.up (er_mono (st := st) s1)).gk KY2 (fun x => (kat x).up fun a ys e => er_mono (st := st) s1 _ _ e) ne (fun z => by have := (er_some F9.hw).2; rw [← z, np2] at this; cases this) hp2⟩
        refine ⟨_, rfl, _, _, .type (kindOf (kdM ky)), _, isSD (kdM ky), rfl, .ty _, tyD dk, kit_ty (kit_str _), _, rfl, ?_⟩
        cases ci : isSD (kdM ky) with
        | true => exact made H12 (Same.refl _) fun nt => absurd ci (by
            rcases ky with s | (_ | z) | z
            · exact absurd rfl (nt s)
            · exact fun h => nomatch h
            · exact fun h => nomatch h
            · exact fun h => nomatch h)
        | false =>
          refine ⟨_, rfl, _, rfl, pr, _, rfl, KH.2, fun lv nlv => ?_⟩
          have s1 := Same.new nlv (o := .lst ((kvF rs vf).map (·.2)))
          have hlv := upd_same (H := H12) (a := lv) (o := .lst ((kvF rs vf).map (·.2)))
          have e2 : (kvF rs vf).map (·.2) = rs.map vf := by unfold kvF; rw [List.map_map]; rfl
          rw [e2] at s1 hlv ⊢
          refine ⟨kdM ky, rs.map dv, dpSame s1 dk, .lst (SqL.of hlv) (vals_dp fun n m => dpSame ((er_same _ _).trans s1) (F8.v n m).1), oky.kw.2.2.1, shaped_all fun d m => ?_, _, rfl, ?_⟩
          · obtain ⟨n, mn, rfl⟩ := List.mem_map.mp m
            exact ⟨(F8.v n mn).2.sh, (F8.v n mn).2.dep⟩
          · refine ite2 (fun cb => made _ s1 fun _ n m => ?_) (fun _ => hnx _ _ ⟨pr, _, none, _, rfl, (B8.same s1).le (by omega) (by omega), (F8.up (er_mono (st := st) s1)).g KY⟩)
            cases c2 : PyData.eqv (dv n) (kdM ky) with
            | false => rfl
            | true =>
              have : ((rs.map dv).any fun z => PyData.eqv z (kdM ky)) = true := List.any_eq_true.mpr ⟨_, List.mem_map.mpr ⟨n, m, rfl⟩, c2⟩
              rw [this] at cb
              cases cb
        --]]
      · obtain ⟨p2, xs, ko, dv2, rfl, B9, G9⟩ := z
        clear F8 B8 kat oky KY2
        obtain ⟨ys, py, asc⟩ := asc_ex rs
        have rpos : 0 < rs.length := by omega
        have xk := G9.rr.X.e
        have xpos : 0 < xs.length := by
          have := congrArg List.length xk
          unfold keysOf at this
          rw [List.length_map, List.length_append, List.length_map] at this
          omega
        -- the first trial
        obtain ⟨oc, ho⟩ := oct_ex G9.rr.X (fun _ => false) py asc
        refine ⟨B9.tab, fun C1 eN tb1 => ?_⟩
        have B9 := B9.ext eN tb1
        have G9 := G9.ext (er_ext (st := st) eN)
        have RR := G9.rr.up (er_same _ _)
        refine hang7 (CB := A.a_BadRow) (CR := A.a_Round) (CH := A.a_Hanging) (i := 4) RR (fun n => by obtain ⟨vf, e, z⟩ := G9.hd n; exact ⟨vf, (er_some e).2, z⟩) rfl ho (fun v1 H12 bt ra vt => ?_)
        obtain ⟨o2, e2, n2, q2⟩ := RR.so
        have B10 := B9.but e2 n2 bt
        have sk := bt.kept e2 q2
        have O10 := RR.O.kept sk
        have R10 : Rr P w K H12 p2 xs rs ko dv2 := ⟨ra, O10, RR.X⟩
        have skE : SeqKept (er C1 st) (er H12 st) := fun a o e q => er_of (er_some e).1 (sk _ _ (er_some e).2 q)
        have OE := G9.rr.O.kept skE
        have hn10 := skE _ _ G9.n rfl
        have hb10 := skE _ _ G9.b rfl
        have hw10 := but_er (st := st) bt _ _ G9.hw G9.ne.symm
        refine R10.mx rfl (fun H13 bt2 r13 O13 => ?_)
        obtain ⟨o3, e3, n3, q3⟩ := ra.so
        have B13 := B10.but e3 n3 bt2
        have sk2 := bt2.kept e3 q3
        have skE : SeqKept (er H12 st) (er H13 st) := fun a o e q => er_of (er_some e).1 (sk2 _ _ (er_some e).2 q)
        have OE := OE.kept skE
        have hn13 := skE _ _ hn10 rfl
        have hb13 := skE _ _ hb10 rfl
        have hw13 := but_er (st := st) bt2 _ _ hw10 G9.ne.symm
        have vt := vt.kept sk2 (ra.ndk xpos bt2)
        have pst : p2 ≠ st := fun z => by
          obtain ⟨cs, i, l, m, k, e1, _⟩ := B13.sta.ex
          rw [← z, r13] at e1
          cases e1
        have G13 : G8 P w K pn p2 bl pw ns rs xs ko dv2 (er H13 st) := ⟨hn13, hb13, hw13, G9.ne, er_of pst r13, OE, G9.rr.X⟩
        have ne2 := G9.ne
        have X2 := G9.rr.X
        clear R10 O10 RR bt bt2 sk sk2 skE hn10 hb10 hw10 hn13 hb13 hw13 B9 B10 G9 eN tb1 ra e2 n2 q2 e3 n3 q3
        refine ⟨Nat.zero_le _, fun eb neb => ?_⟩
        have s1 := Same.new neb (o := .lst [])
        have heb := upd_same (H := H13) (a := eb) (o := .lst [])
        have B13 := B13.same s1
        have G13 := G13.up (er_mono (st := st) s1)
        have vt := vt.up s1
        refine cast_heap (b := upd H13 eb (.lst [])) rfl ?_
        generalize upd H13 eb (.lst []) = H14 at heb B13 G13 vt ⊢
        clear s1 neb r13 O13 OE
        refine tn_nil ?_
        dsimp only
        show spDue P w K [.ref p2, .ref eb] H14 _ _
        refine due7 (er_some G13.r).2 (G13.O.kept (same_kept (er_same _ _))) X2 (SqL.of heb) .nil (by decide +kernel) py asc ho (fun v2 H15 s1 vu => ?_)
        have B14 := B13.same s1
        have G14 := G13.up (er_mono (st := st) s1)
        obtain ⟨d1, dv1, du1, dd1, dw1⟩ := both_same (vt.up s1) vu
        refine ⟨v1, v2, d1, rfl, dv1, du1, dd1, dw1, fun H16 s1 => ⟨_, rfl, iteF ?_⟩⟩
        have B14 := B14.same s1
        have G14 := G14.up (er_mono (st := st) s1)
        clear B13 G13 vt s1 vu dv1 du1 dd1 dw1 heb ho
        -- waits
        have xl : xs.length ≤ 17 := by have := X2.ky.len2; rwa [← X2.e, List.length_map] at this
        have r16 := er_some G14.r
        refine ⟨p2, _, r16.2, trivial, fun od => ?_⟩
        have hF := upd_same (H := H16) (a := p2) (o := .frz od (MxO P w p2 xs))
        have btF := But.upd (r := p2) (H := H16) (o := .frz od (MxO P w p2 xs))
        have skF := btF.kept r16.2 rfl
        have skE : SeqKept (er H16 st) (er (upd H16 p2 (.frz od (MxO P w p2 xs))) st) := fun a o e q => er_of (er_some e).1 (skF _ _ (er_some e).2 q)
        have BF := B14.but r16.2 notSt_mx btF
        have hFE : er (upd H16 p2 (.frz od (MxO P w p2 xs))) st p2 = some (.frz od (MxO P w p2 xs)) := er_of r16.1 hF
        have OF := G14.O.kept skE
        have hnF := skE _ _ G14.n rfl
        have hbF := skE _ _ G14.b rfl
        have hwF := but_er (st := st) btF _ _ G14.hw ne2.symm
        have hwM : MDic P w (er (upd H16 p2 (.frz od (MxO P w p2 xs))) st) pw [] := ⟨[], hwF, (fun _ m => nomatch m), rfl⟩
        generalize upd H16 p2 (.frz od (MxO P w p2 xs)) = HF at hF hFE BF OF hnF hbF hwM ⊢
        clear btF skF skE hwF r16 G14 B14
        have L0 : L7 P w K pn p2 bl pw od ns xs dv2 [] [] (fun _ => .none) [] [] (er HF st) := ⟨hFE, OF, hnF, hbF, hwM, W7.start⟩
        clear hFE OF hnF hbF hwM
        refine ⟨_, rfl, p2, od, xs, rfl, hF, for_it walk_mx (fun i' σ' H' => ∃ bl' x8 wvs bvs bks wv, σ' = [some (.ref a), some (.ref st), some (.int (0 + (i : Int))), some (.ref pn), some (.ref p2), some (.ref bl'), some (.ref pw), x7, x8, x9, some kv, v11, v12] ∧ BdT (T1 P1) st c (4000 * (i : Int) + 250 + 4 * (i' : Int)) H' ∧
            L7 P w K pn p2 bl' pw od ns xs dv2 ((xs.take i').map (·.1)) bks wv wvs bvs (er H' st))
          ⟨_, _, _, _, _, _, rfl, BF.le (by omega) (by omega), L0⟩ (fun i' σ' H' _ ⟨_, _, _, _, _, _, _, _, L⟩ => (er_some L.r).2) ?_ (fun σ' H' z => ?_)⟩
        · clear BF L0 hF
          --[[
          rintro i' x σ' H17 H18 hi' ⟨bl', x8, wvs, bvs, bks, wv, rfl, B17, L17⟩ ⟨rfl, q, hq, rfl⟩
          have hi2 : i' < xs.length := hi'
          have i17 : (i' : Int) ≤ 16 := by omega
          have mq := List.mem_of_getElem? hq
          have tk : (xs.take (i' + 1)).map (·.1) = (xs.take i').map (·.1) ++ [q.1] := by rw [List.take_succ, hq, List.map_append]; rfl
          have nk : q.1 ∉ (xs.take i').map (·.1) := fun m => by
            have nd := L17.O.nd
            have e : xs.map (·.1) = (xs.take (i' + 1)).map (·.1) ++ (xs.drop (i' + 1)).map (·.1) := by rw [← List.map_append, List.take_append_drop]
            rw [e, tk] at nd
            have nd := (List.nodup_append.mp nd).1
            exact (List.nodup_append.mp nd).2.2 _ m _ (List.mem_singleton.mpr rfl) rfl
          have klen : ((xs.take i').map (·.1)).length ≤ 16 := by rw [List.length_map, List.length_take]; omega
          refine ⟨_, rfl, st, c, 9, _, rfl, B17.sta, by omega, by omega, by omega, fun r o hr0 hr1 S1 => ?_⟩
          have g := Gs.of_upd S1
          have B17 := B17.gs g
          have L17 := L17.up g.same
          generalize upd H18 st o = H19 at B17 L17 ⊢
          clear g S1
          have wl : wvs.length ≤ 16 := by have := congrArg List.length L17.W.keys; rw [List.length_map] at this; omega
          refine ⟨_, rfl, _, rfl, pw, wvs, q.1, rfl, L17.m.up (er_same _ _), keyAt_L (keyAt_kept (same_kept (er_same _ _)) (L17.O.key q mq)), keyAt_val (keyAt_kept (same_kept (er_same _ _)) (L17.O.key q mq)), Nat.lt_of_le_of_lt wl (by decide), fun z hz => ?_⟩
          rw [putM_new _ _ _ (by rw [L17.W.keys]; exact nk)] at hz
          obtain ⟨B18, L18⟩ := L17.put B17 ne2 hz fun sk => (L17.W.kept sk).one nk (.int r) (.int r) (decide_eq_true hr0)
          rw [← tk] at L18
          generalize upd H19 pw z = H20 at B18 L18 ⊢
          clear hz
          dsimp only [List.set]
          refine ⟨_, rfl, st, c, 12, _, rfl, B18.sta, by omega, by omega, by omega, fun r2 o hr0 hr1 S1 => ?_⟩
          have g := Gs.of_upd S1
          have B18 := B18.gs g
          have L18 := L18.up g.same
          have L19 := L17.W
          generalize upd H20 st o = H21 at B18 L18 ⊢
          clear g S1
          refine ⟨rfl, _, rfl, ite2 (fun c0 => ?_) (fun c0 => ⟨_, _, _, _, _, _, rfl, B18.le (by omega) (by omega), L18⟩)⟩
          refine ⟨_, rfl, _, rfl, by show 1 ≤ sizeLine; decide, fun l1 nl1 => ?_⟩
          have s1 := Same.new nl1 (o := .lst [q.2.1])
          have hl1 := upd_same (H := H21) (a := l1) (o := .lst [q.2.1])
          have B18 := B18.same s1
          have L18 := L18.up (er_mono (st := st) s1)
          refine cast_heap (b := upd H21 l1 (.lst [q.2.1])) rfl ?_
          generalize upd H21 l1 (.lst [q.2.1]) = H22 at hl1 B18 L18 ⊢
          clear s1 nl1
          have bvl : bvs.length ≤ 16 := by
            have e := dp_len L17.W.bl
            have e2 := L17.W.len
            rw [List.length_map] at e
            omega
          refine ⟨bl', l1, _, _, rfl, rfl, (er_some L18.b).2, hl1, Nat.le_trans (show bvs.length + 1 ≤ 17 by omega) (by decide), fun b2 nb2 => ?_⟩
          have s1 := Same.new nb2 (o := .lst (bvs ++ [q.2.1]))
          have hb2 := er_of (H := upd H22 b2 (.lst (bvs ++ [q.2.1]))) (B18.sta.ne nb2) (upd_same (o := .lst (bvs ++ [q.2.1])))
          have B18 := B18.same s1
          have L18 := L18.up (er_mono (st := st) s1)
          refine cast_heap (b := upd H22 b2 (.lst (bvs ++ [q.2.1]))) rfl ?_
          generalize upd H22 b2 (.lst (bvs ++ [q.2.1])) = H23 at hb2 B18 L18 ⊢
          clear s1 nb2 hl1
          refine ⟨_, rfl, _, rfl, Nat.zero_le _, fun e1 ne1 => ?_⟩
          have s1 := Same.new ne1 (o := .lst [])
          have he1 := er_of (H := upd H23 e1 (.lst [])) (B18.sta.ne ne1) (upd_same (o := .lst []))
          have B18 := B18.same s1
          have L18 := L18.up (er_mono (st := st) s1)
          have hb2 := er_mono (st := st) s1 _ _ hb2
          refine cast_heap (b := upd H23 e1 (.lst [])) rfl ?_
          generalize upd H23 e1 (.lst []) = H24 at he1 hb2 B18 L18 ⊢
          clear s1 ne1
          refine ⟨_, rfl, by show 6 ≤ sizeLine; decide, fun lo nlo => ?_⟩
          have s1 := Same.new nlo (o := .lst [.int (-1), .non, .str "1", .bl true, .ref e1, .int (-999999999)])
          have hlo := er_of (H := upd H24 lo (.lst [.int (-1), .non, .str "1", .bl true, .ref e1, .int (-999999999)])) (B18.sta.ne nlo) (upd_same (o := .lst [.int (-1), .non, .str "1", .bl true, .ref e1, .int (-999999999)]))
          have B18 := B18.same s1
          have L18 := L18.up (er_mono (st := st) s1)
          have hb2 := er_mono (st := st) s1 _ _ hb2
          have he1 := er_mono (st := st) s1 _ _ he1
          refine cast_heap (b := upd H24 lo (.lst [.int (-1), .non, .str "1", .bl true, .ref e1, .int (-999999999)])) rfl ?_
          generalize upd H24 lo (.lst [.int (-1), .non, .str "1", .bl true, .ref e1, .int (-999999999)]) = H25 at he1 hlo hb2 B18 L18 ⊢
          clear s1 nlo
          refine ⟨st, c, lo, _, _, rfl, B18.sta, by omega, SqL.of hlo, by show 0 < 6; decide, by show 6 < _; decide, fun mi u H26 hu g => ?_⟩
          have he1 := g.same _ _ he1
          have hb2 := g.same _ _ hb2
          have L18 := L18.up g.same
          have B18 := B18.gs g
          clear g hlo
          obtain ⟨d, hd, od2, wd⟩ := bad7 he1 hu
          refine ⟨by show 2 ≤ sizeLine; decide, fun tt ntt => ?_⟩
          have s1 := Same.new ntt (o := .tup [.ref b2, u])
          have B18 := B18.same s1
          have L18 := L18.up (er_mono (st := st) s1)
          have hb2 := er_mono (st := st) s1 _ _ hb2
          have hd := dpSame (er_mono (st := st) s1) hd
          have htt := upd_same (H := H26) (a := tt) (o := .tup [.ref b2, u])
          refine cast_heap (b := upd H26 tt (.tup [.ref b2, u])) rfl ?_
          generalize upd H26 tt (.tup [.ref b2, u]) = H27 at hb2 hd htt B18 L18 ⊢
          clear s1 ntt
          have W27 := L18.W
          rw [tk] at W27
          have W27 := L19.old nk W27
          refine ⟨tt, _, rfl, SqT.of htt, rfl, _, _, rfl, _, _, rfl, _, rfl, _, rfl, pw, wvs ++ [(q.1, .int r)], q.1, rfl, L18.m.up (er_same _ _), keyAt_L (keyAt_kept (same_kept (er_same _ _)) (L18.O.key q mq)), keyAt_val (keyAt_kept (same_kept (er_same _ _)) (L18.O.key q mq)), by rw [List.length_append]; exact Nat.lt_of_le_of_lt (show wvs.length + 1 ≤ 17 by omega) (by decide), fun z hz => ⟨rfl, ?_⟩⟩
          rw [putM_last (by rw [L19.keys]; exact nk)] at hz
          obtain ⟨B28, L28⟩ := L18.putb B18 ne2 hb2 hz fun sk => (W27.kept sk).two nk (dp_kept sk _ _ hd) od2 wd (dp_kept sk _ _ (keyL_dp (keyAt_L (L18.O.key q mq))))
          rw [← tk] at L28
          exact ⟨_, _, _, _, _, _, rfl, B28.le (by omega) (by omega), L28⟩
          --]]
        · clear BF L0 hF
          obtain ⟨bl', x8, wvs, bvs, bks, wv, rfl, B17, L17⟩ := z
          refine ⟨(er_some L17.r).2, ?_⟩
          have B17 := B17.le (b' := 4000 * (i : Int) + 330) (by omega) (by omega)
          have r17 := er_some L17.r
          have bt := But.upd (r := p2) (H := H') (o := MxO P w p2 xs)
          have sk := bt.kept r17.2 rfl
          have skE : SeqKept (er H' st) (er (upd H' p2 (MxO P w p2 xs)) st) := fun a o e q => er_of (er_some e).1 (sk _ _ (er_some e).2 q)
          have B18 := B17.but r17.2 notSt_frz bt
          have L18 : MDic P w (er (upd H' p2 (MxO P w p2 xs)) st) pw wvs := by
            obtain ⟨x0, h1, h2, h3⟩ := L17.m.ex
            exact ⟨x0, but_er bt _ _ h1 ne2.symm, fun x mx => keyAt_kept skE (h2 x mx), h3⟩
          have W18 := L17.W.kept skE
          rw [List.take_length] at W18
          have N18 : N7 P w K pn p2 bl' ns xs dv2 bks wv wvs bvs (er (upd H' p2 (MxO P w p2 xs)) st) := ⟨er_of r17.1 upd_same, L17.O.kept skE, skE _ _ L17.n rfl, skE _ _ L17.b rfl, W18⟩
          generalize upd H' p2 (MxO P w p2 xs) = H19 at B18 L18 N18 ⊢
          clear B17 L17 r17 bt sk skE W18
          -- pairs
          with_reducible refine joinA (fun v G => ∃ p yl, v = .ref p ∧ H19 p = none ∧ Same H19 G ∧ Pp P w K G p yl rs ko dv2 wv ∧ yl.map (fun z => (z.1, z.2.1)) = xs.map fun z => (z.1, z.2.1)) (fun Q' kQ => ?_) (fun v G z => ?_)
          ·
            --[[
            have N := N18.up (er_same _ _)
            have M := L18.up (er_same _ _)
            have fin : ∀ (G : Hp) (D : Addr) (ps : List Addr) (yl : List (MK × V × V)), Same H19 G → G D = some (.lst (ps.map V.ref)) → Y7 K (xs.map fun z => (z.1, z.2.1)) ps yl dv2 wv G →
                ((∃ a ps kvs, [V.ref D] = [V.ref a] ∧ SqL K G a (List.map V.ref ps) ∧ Paired (fun p (kv : Key × V) => SqT K G p [kV kv.fst, kv.snd]) ps kvs ∧ ∀ (p : Addr), G p = none → Q' (V.ref p) (upd G p (HO.dK (mergeK [] kvs)))) ∨
                  ∃ a ps xs_1, [V.ref D] = [V.ref a] ∧ SqL K G a (List.map V.ref ps) ∧ Paired (fun p (x : MK × V × V) => SqT K G p [x.snd.fst, x.snd.snd] ∧ KeyL K G x.snd.fst x.fst) ps xs_1 ∧ (List.map (fun x => x.fst) xs_1).Nodup ∧ ∀ (p : Addr), G p = none → Q' (V.ref p) (upd G p (MxO P w p xs_1))) := fun G D ps yl s hD Y => by
              have ek : yl.map (·.1) = xs.map (·.1) := by
                have := congrArg (List.map Prod.fst) Y.ks
                rwa [List.map_map, List.map_map] at this
              have wt : ∀ k ∈ xs.map (·.1), WtV (wv k) := fun k m => by
                rw [← N.W.keys] at m
                obtain ⟨q, mq, rfl⟩ := List.mem_map.mp m
                exact (N.W.val q mq).2
              cases hko : ko with
              | none =>
                have e2 : yl.map (fun z => (z.1, z.2.1)) = rs.map fun n => ((.inl n : MK), V.str n) := by
                  rw [Y.ks]
                  exact keys_txt N.O.key (by rw [X2.e, hko]; exact List.append_nil _)
                obtain ⟨vf, ey⟩ := vf_of KY.nd e2
                refine .inl ⟨D, ps, kvF rs vf, rfl, SqL.of hD, ?_, fun p np => ?_⟩
                · have := Y.pr
                  rw [ey] at this
                  exact paired_mapR (f := fun n => ((.inl n : MK), V.str n, vf n)) (g := fun n => ((.inr n : Key), vf n)) this fun p n z => z.1
                · rw [merge_all _ [] (by rw [List.nil_append, kvF_keys]; exact inr_nd KY.nd), List.nil_append]
                  have s2 := Same.new np (o := .dK (kvF rs vf))
                  exact kQ _ _ ⟨p, yl, rfl, s.free np, s.trans s2, (Y.kept (same_kept s2)).pp (N.O.kept (same_kept (s.trans s2))) X2 wt (by rw [hko]; exact .inr ⟨rfl, vf, upd_same, ey⟩), Y.ks⟩
              | some k0 =>
                refine .inr ⟨D, ps, yl, rfl, SqL.of hD, Y.pr, by rw [ek]; exact N.O.nd, fun p np => ?_⟩
                have s2 := Same.new np (o := MxO P w p yl)
                exact kQ _ _ ⟨p, yl, rfl, s.free np, s.trans s2, (Y.kept (same_kept s2)).pp (N.O.kept (same_kept (s.trans s2))) X2 wt (by rw [hko]; exact .inl ⟨nofun, upd_same⟩), Y.ks⟩
            refine ⟨p2, _, N.r, trivial, fun od => ?_⟩
            have hF := upd_same (H := H19) (a := p2) (o := .frz od (MxO P w p2 xs))
            have btF := But.upd (r := p2) (H := H19) (o := .frz od (MxO P w p2 xs))
            have skF := btF.kept N.r rfl
            have OF := N.O.kept skF
            have WF := N.W.kept skF
            have MF : MDic P w (upd H19 p2 (.frz od (MxO P w p2 xs))) pw wvs := by
              obtain ⟨x0, h1, h2, h3⟩ := M.ex
              exact ⟨x0, btF _ _ h1 ne2.symm, fun x mx => keyAt_kept skF (h2 x mx), h3⟩
            have back : ∀ {G : Hp}, Same (upd H19 p2 (.frz od (MxO P w p2 xs))) G → Same H19 (upd G p2 (MxO P w p2 xs)) := fun s => unfrz N.r s
            refine ⟨_, rfl, p2, od, xs, rfl, hF, fun D nD => lc_it walk_mx (fun m G => Same (upd H19 p2 (.frz od (MxO P w p2 xs))) G ∧ ∃ ps yl, G D = some (.lst (ps.map V.ref)) ∧ Y7 K ((xs.take m).map fun z => (z.1, z.2.1)) ps yl dv2 wv (er G D))
              ⟨Same.new nD, [], [], upd_same, Y7.start⟩ (fun m G _ z => z.1 _ _ hF) ?_ (fun G z => ?_)⟩
            · rintro m x G G' hm ⟨s19, ps, yl, hD, Y⟩ ⟨rfl, q, hq, rfl⟩
              have mq := List.mem_of_getElem? hq
              have O19 := OF.kept (same_kept s19)
              have rd : MRd P w G' p2 (xs.map fun x => (x.1, x.2.2)) := ⟨xs, .inr ⟨od, s19 _ _ hF⟩, O19.key, rfl⟩
              have kL := keyAt_L (K := K) (O19.key q mq)
              obtain ⟨wv1, hwv, mwv⟩ := val_mem (m := wvs) (k := q.1) (by rw [N.W.keys]; exact List.mem_map.mpr ⟨q, mq, rfl⟩)
              refine ⟨rfl, _, rfl, _, rfl, _, rfl, p2, _, q.1, _, rfl, rd, kL, O19.get hq, _, rfl, _, rfl, pw, _, q.1, _, rfl, (MF.up s19).rd, kL, hwv, ?_⟩
              refine ⟨by show 2 ≤ sizeLine; decide, fun t1 nt1 => ⟨by show 2 ≤ sizeLine; decide, fun t2 nt2 => ?_⟩⟩
              have s20 := Same.new nt1 (o := .tup [q.2.2, wv1])
              have s21 := Same.new nt2 (o := .tup [q.2.1, .ref t1])
              have q1 : SqT K _ t1 _ := SqT.of (s21 _ _ (upd_same (H := G') (a := t1) (o := .tup [q.2.2, wv1])))
              have q2 : SqT K _ t2 _ := SqT.of (upd_same (H := upd G' t1 (.tup [q.2.2, wv1])) (a := t2) (o := .tup [q.2.1, .ref t1]))
              have s22 := s20.trans s21
              refine cast_heap (b := upd (upd G' t1 (.tup [q.2.2, wv1])) t2 (.tup [q.2.1, .ref t1])) rfl ?_
              generalize upd (upd G' t1 (.tup [q.2.2, wv1])) t2 (.tup [q.2.1, .ref t1]) = G2 at s22 q1 q2 ⊢
              clear s20 s21 nt1 nt2
              have hD2 := s22 _ _ hD
              have er2 : ∀ {t : Addr} {us : List V}, SqT K G2 t us → SqT K (er G2 D) t us := fun h => tupEr hD2 (noTup_lst _) h
              have yl17 : ps.length ≤ 16 := by
                have a := Y.pr.length
                have b := congrArg List.length Y.ks
                rw [List.length_map, List.length_map, List.length_take] at b
                have : m < xs.length := hm
                omega
              have tk : (xs.take (m + 1)).map (fun z => (z.1, z.2.1)) = (xs.take m).map (fun z => (z.1, z.2.1)) ++ [(q.1, q.2.1)] := by rw [List.take_succ, hq, List.map_append]; rfl
              have sD : Same (upd H19 p2 (.frz od (MxO P w p2 xs))) (er G2 D) := fun b u e => er_of (ne_of_none e nD) (s22 _ _ (s19 _ _ e))
              have O2 := OF.kept (same_kept sD)
              have Y2 := ((Y.kept (same_kept (er_mono (st := D) s22))).app (k := q.1) (y := q.2.1) (er2 q2) (keyAt_L (O2.key q mq)) (er2 q1) (O2.val q mq) (dpSame sD (WF.val (q.1, wv1) mwv).1))
              refine ⟨_, hD2, by rw [List.length_map]; exact Nat.lt_of_le_of_lt yl17 (by decide), fun b u e => by rw [upd_ne (ne_of_none e nD)]; exact s22 _ _ (s19 _ _ e), ps ++ [t2], yl ++ [(q.1, q.2.1, .ref t1)], by rw [upd_same, List.map_append]; rfl, ?_⟩
              rw [tk, er_upd]
              exact Y2
            · obtain ⟨s19, ps, yl, hD, Y⟩ := z
              rw [List.take_length] at Y
              refine ⟨s19 _ _ hF, ?_⟩
              have Dp2 : D ≠ p2 := fun e => by rw [e, hF] at nD; cases nD
              have S := back s19
              have hD2 : upd G p2 (MxO P w p2 xs) D = some (.lst (ps.map V.ref)) := by rw [upd_ne Dp2]; exact hD
              have bt2 := But.upd (r := p2) (H := G) (o := MxO P w p2 xs)
              exact fin _ D ps yl S hD2 ((Y.kept (same_kept (er_same _ _))).kept (bt2.kept (s19 _ _ hF) rfl))
            --]]
          · obtain ⟨p, yl, rfl, fp, s1, PP, eks⟩ := z
            have B19 := B18.same s1
            have N19 := N18.up (er_mono (st := st) s1)
            have pne : p ≠ p2 := fun z => by rw [z, (er_some N18.r).2] at fp; cases fp
            clear B18 N18 L18 s1 fp
            have exs : xs.map (·.1) = yl.map (·.1) := by
              have := congrArg (List.map Prod.fst) eks
              rw [List.map_map, List.map_map] at this
              exact this.symm
            obtain ⟨oc2, ho2⟩ := oct_ex X2 (inD (bks.map kdM)) py asc
            have bsh : SeqAt.shaped (.list (bks.map kdM)) = true := shaped_all fun d m => by
              obtain ⟨k, mk, rfl⟩ := List.mem_map.mp m
              have := KyOk.kw X2.ky (k := k) (by rw [← X2.e]; exact N19.W.bs k mk)
              exact ⟨this.2.2.1, Nat.le_trans (Nat.le_of_lt this.1) (Nat.le_refl _)⟩
            refine ⟨B19.tab, fun C1 eN tb1 => ?_⟩
            have B19 := B19.ext eN tb1
            have N19 := N19.ext (er_ext (st := st) eN)
            have PP := PP.ext eN
            clear eN tb1
            refine book7 (CB := A.a_BadRow) (CR := A.a_Round) (CH := A.a_Book) (i := 11) (x0 := xs) (bds := bks.map kdM) PP exs (fun k z z0 hz hz0 => ?_) (fun q mq => ?_) rfl ho2 (fun v1 H20 bt vt => ?_)
            · have e1 : (yl.map fun z => (z.1, z.2.1))[k]? = some (z.1, z.2.1) := by rw [List.getElem?_map, hz]; rfl
              have e2 : (xs.map fun z => (z.1, z.2.1))[k]? = some (z0.1, z0.2.1) := by rw [List.getElem?_map, hz0]; rfl
              rw [eks, e2] at e1
              exact (Prod.mk.inj (Option.some.inj e1)).2.symm
            · have mk : q.1 ∈ keysOf rs ko := by rw [← X2.e, exs]; exact List.mem_map.mpr ⟨q, mq, rfl⟩
              have W := N19.W
              rw [X2.e] at W
              exact hb_of X2.ky W mk
            have so : ∃ o, C1 p = some o ∧ NotSt p o ∧ SeqO o = false := by
              rcases PP.at_ with ⟨_, e⟩ | ⟨_, vf, e, _⟩
              · exact ⟨_, e, notSt_mx, rfl⟩
              · exact ⟨_, e, notSt_dK, rfl⟩
            obtain ⟨o2, e2, n2, q2⟩ := so
            have B20 := B19.but e2 n2 bt
            have sk := bt.kept e2 q2
            have skE : SeqKept (er C1 st) (er H20 st) := fun a o e q => er_of (er_some e).1 (sk _ _ (er_some e).2 q)
            have N20 : N7 P w K pn p2 bl' ns xs dv2 bks wv wvs bvs (er H20 st) := ⟨but_er (st := st) bt _ _ N19.r (Ne.symm pne), N19.O.kept skE, skE _ _ N19.n rfl, skE _ _ N19.b rfl, N19.W.kept skE⟩
            clear B19 N19 PP bt sk skE e2 n2 q2
            refine .inl ⟨_, rfl, _, rfl, tn_nil ?_⟩
            dsimp only
            show spDue P w K [.ref p2, .ref bl'] H20 _ _
            refine due7 (er_some N20.r).2 (N20.O.kept (same_kept (er_same _ _))) X2 (SqL.of (er_some N20.b).2) (dpAll_kept (same_kept (er_same _ _)) _ _ N20.W.bl) bsh py asc ho2 (fun v2 H21 s1 vu => ?_)
            have B21 := B20.same s1
            have N21 := N20.up (er_mono (st := st) s1)
            obtain ⟨d1, dv1, du1, dd1, dw1⟩ := both_same (vt.up s1) vu
            refine ⟨v1, v2, d1, rfl, dv1, du1, dd1, dw1, fun H22 s2 => ⟨_, rfl, iteF ?_⟩⟩
            have B22 := B21.same s2
            have hn := er_mono (st := st) s2 _ _ N21.n
            clear B20 N20 B21 N21 vt s1 s2 vu dv1 du1 dd1 dw1 ho2 bsh exs eks pne
            -- an entry that is none
            refine ⟨_, rfl, _, rfl, st, c, pn, _, _, rfl, B22.sta, by omega, SqL.of hn, by rw [List.length_map]; omega, by rw [List.length_map]; omega, fun m v H9 hv g9 => ?_⟩
            obtain ⟨hm, rfl⟩ := str_at hv
            have hn := g9.same _ _ hn
            have B9 := B22.gs g9
            clear B22 g9 hv
            dsimp only [List.set]
            refine ⟨_, rfl, by show 1 ≤ sizeLine; decide, fun t1 nt1 => ?_⟩
            have s1 := Same.new nt1 (o := .tup [.str "clock"])
            have ht1 := er_of (H := upd H9 t1 (.tup [.str "clock"])) (B9.sta.ne nt1) (upd_same (o := .tup [.str "clock"]))
            have hn := er_mono (st := st) s1 _ _ hn
            have B9 := B9.same s1
            refine cast_heap (b := upd H9 t1 (.tup [.str "clock"])) rfl ?_
            generalize upd H9 t1 (.tup [.str "clock"]) = G1 at hn ht1 B9 ⊢
            clear s1 nt1
            refine ⟨by show 3 ≤ sizeLine; decide, fun t2 nt2 => ?_⟩
            have s1 := Same.new nt2 (o := .tup [.str "clock", .int 1, .int 2])
            have ht2 := er_of (H := upd G1 t2 (.tup [.str "clock", .int 1, .int 2])) (B9.sta.ne nt2) (upd_same (o := .tup [.str "clock", .int 1, .int 2]))
            have hn := er_mono (st := st) s1 _ _ hn
            have ht1 := er_mono (st := st) s1 _ _ ht1
            have B9 := B9.same s1
            refine cast_heap (b := upd G1 t2 (.tup [.str "clock", .int 1, .int 2])) rfl ?_
            generalize upd G1 t2 (.tup [.str "clock", .int 1, .int 2]) = G2 at hn ht1 ht2 B9 ⊢
            clear s1 nt2
            refine ⟨Nat.zero_le _, fun e1 ne1 => ?_⟩
            have s1 := Same.new ne1 (o := .lst [])
            have he1 := er_of (H := upd G2 e1 (.lst [])) (B9.sta.ne ne1) (upd_same (o := .lst []))
            have hn := er_mono (st := st) s1 _ _ hn
            have ht1 := er_mono (st := st) s1 _ _ ht1
            have ht2 := er_mono (st := st) s1 _ _ ht2
            have B9 := B9.same s1
            refine cast_heap (b := upd G2 e1 (.lst [])) rfl ?_
            generalize upd G2 e1 (.lst []) = G3 at hn ht1 ht2 he1 B9 ⊢
            clear s1 ne1
            refine .inl fun e2 ne2 => ?_
            have s1 := Same.new ne2 (o := .dK [])
            have he2 := er_of (H := upd G3 e2 (.dK [])) (B9.sta.ne ne2) (upd_same (o := .dK []))
            have hn := er_mono (st := st) s1 _ _ hn
            have ht1 := er_mono (st := st) s1 _ _ ht1
            have ht2 := er_mono (st := st) s1 _ _ ht2
            have he1 := er_mono (st := st) s1 _ _ he1
            have B9 := B9.same s1
            refine cast_heap (b := upd G3 e2 (.dK [])) rfl ?_
            generalize upd G3 e2 (.dK []) = G4 at hn ht1 ht2 he1 he2 B9 ⊢
            clear s1 ne2
            refine ⟨by show 2 ≤ sizeLine; decide, fun l1 nl1 => ?_⟩
            have s1 := Same.new nl1 (o := .lst [.str "clock", .int 1])
            have hl1 := er_of (H := upd G4 l1 (.lst [.str "clock", .int 1])) (B9.sta.ne nl1) (upd_same (o := .lst [.str "clock", .int 1]))
            have hn := er_mono (st := st) s1 _ _ hn
            have ht1 := er_mono (st := st) s1 _ _ ht1
            have ht2 := er_mono (st := st) s1 _ _ ht2
            have he1 := er_mono (st := st) s1 _ _ he1
            have he2 := er_mono (st := st) s1 _ _ he2
            have B9 := B9.same s1
            refine cast_heap (b := upd G4 l1 (.lst [.str "clock", .int 1])) rfl ?_
            generalize upd G4 l1 (.lst [.str "clock", .int 1]) = G5 at hn ht1 ht2 he1 he2 hl1 B9 ⊢
            clear s1 nl1
            refine ⟨by show 1 ≤ sizeLine; decide, fun l2 nl2 => ?_⟩
            have s1 := Same.new nl2 (o := .lst [.ref l1])
            have hl2 := er_of (H := upd G5 l2 (.lst [.ref l1])) (B9.sta.ne nl2) (upd_same (o := .lst [.ref l1]))
            have hn := er_mono (st := st) s1 _ _ hn
            have ht1 := er_mono (st := st) s1 _ _ ht1
            have ht2 := er_mono (st := st) s1 _ _ ht2
            have he1 := er_mono (st := st) s1 _ _ he1
            have he2 := er_mono (st := st) s1 _ _ he2
            have hl1 := er_mono (st := st) s1 _ _ hl1
            have B9 := B9.same s1
            refine cast_heap (b := upd G5 l2 (.lst [.ref l1])) rfl ?_
            generalize upd G5 l2 (.lst [.ref l1]) = G6 at hn ht1 ht2 he1 he2 hl1 hl2 B9 ⊢
            clear s1 nl2
            refine ⟨by show 8 ≤ sizeLine; decide, fun lo nlo => ?_⟩
            have s1 := Same.new nlo (o := .lst [.non, .int 5, .str "clock", .ref t1, .ref t2, .ref e1, .ref e2, .ref l2])
            have hlo := er_of (H := upd G6 lo (.lst [.non, .int 5, .str "clock", .ref t1, .ref t2, .ref e1, .ref e2, .ref l2])) (B9.sta.ne nlo) (upd_same (o := .lst [.non, .int 5, .str "clock", .ref t1, .ref t2, .ref e1, .ref e2, .ref l2]))
            have hn := er_mono (st := st) s1 _ _ hn
            have ht1 := er_mono (st := st) s1 _ _ ht1
            have ht2 := er_mono (st := st) s1 _ _ ht2
            have he1 := er_mono (st := st) s1 _ _ he1
            have he2 := er_mono (st := st) s1 _ _ he2
            have hl1 := er_mono (st := st) s1 _ _ hl1
            have hl2 := er_mono (st := st) s1 _ _ hl2
            have B9 := B9.same s1
            refine cast_heap (b := upd G6 lo (.lst [.non, .int 5, .str "clock", .ref t1, .ref t2, .ref e1, .ref e2, .ref l2])) rfl ?_
            generalize upd G6 lo (.lst [.non, .int 5, .str "clock", .ref t1, .ref t2, .ref e1, .ref e2, .ref l2]) = G7 at hn ht1 ht2 he1 he2 hl1 hl2 hlo B9 ⊢
            clear s1 nlo
            refine ⟨st, c, lo, _, _, rfl, B9.sta, by omega, SqL.of hlo, by show 0 < 8; decide, by show 8 < _; decide, fun mi u H10 hu g => ?_⟩
            have hn := g.same _ _ hn
            have ht1 := g.same _ _ ht1
            have ht2 := g.same _ _ ht2
            have he1 := g.same _ _ he1
            have he2 := g.same _ _ he2
            have hl2 := g.same _ _ hl2
            have B9 := B9.gs g
            clear g hlo hl1
            have ent : ∀ ks, EntV K (er H10 st) u ks false := fun ks => ent7 ht1 ht2 he1 he2 hl2 hu
            clear hu ht1 ht2 he1 he2 hl2
            dsimp only [List.set]
            have nsN : ns.Nodup := hnd
            have hnF := (er_some hn).2
            refine ⟨_, rfl, pn, rfl, ⟨_, SqL.of hnF⟩, fun D nD => lc_it (walk_list (K := K) (a := pn)) (fun j G => Same H10 G ∧ ∃ (ps : List Addr) (kvs : List (Key × V)), G D = some (.lst (ps.map V.ref)) ∧ Paired (fun p (kv : Key × V) => SqT K G p [kV kv.1, kv.2]) ps kvs ∧ Pr2 K G (ns.take j) (fun _ => .str "clock") (fun _ => .int 0) kvs)
              ⟨Same.new nD, [], [], upd_same, .nil, Pr2.nil⟩ (fun j G _ z => SqL.of (z.1 _ _ hnF)) ?_ (fun G z => ?_)⟩
            · rintro j x G G' hj ⟨s17, gs, kvs, hD, hPP, hR⟩ ⟨rfl, hx⟩
              obtain ⟨hj, rfl⟩ := str_at hx
              refine ⟨rfl, _, rfl, by show 2 ≤ sizeLine; decide, fun t1 nt1 => ⟨by show 2 ≤ sizeLine; decide, fun t2 nt2 => ?_⟩⟩
              have s18 := Same.new nt1 (o := .tup [.str "clock", .int 0])
              have s19 := Same.new nt2 (o := .tup [kV (.inr ns[j]), .ref t1])
              have q1 : SqT K _ t1 _ := SqT.of (s19 _ _ (upd_same (H := G') (a := t1) (o := .tup [.str "clock", .int 0])))
              have q2 : SqT K _ t2 _ := SqT.of (upd_same (H := upd G' t1 (.tup [.str "clock", .int 0])) (a := t2) (o := .tup [kV (.inr ns[j]), .ref t1]))
              have s20 := s18.trans s19
              refine cast_heap (b := upd (upd G' t1 (.tup [.str "clock", .int 0])) t2 (.tup [kV (.inr ns[j]), .ref t1])) rfl ?_
              generalize upd (upd G' t1 (.tup [.str "clock", .int 0])) t2 (.tup [kV (.inr ns[j]), .ref t1]) = H18 at s20 q1 q2 ⊢
              have hD18 := s20 _ _ hD
              have pl : gs.length = j := by rw [hPP.length, hR.len, List.length_take]; omega
              have e1 : ns.take (j + 1) = ns.take j ++ [ns[j]] := by rw [List.take_succ, List.getElem?_eq_getElem hj]; rfl
              refine ⟨_, hD18, by rw [List.length_map, pl]; exact Nat.lt_of_le_of_lt (show j ≤ 5 by omega) (by decide), fun b u e => by rw [upd_ne (ne_of_none e nD)]; exact s20 _ _ (s17 _ _ e), gs ++ [t2], kvs ++ [(.inr ns[j], .ref t1)], by rw [upd_same, List.map_append]; rfl, ?_, ?_⟩
              · exact paired_snoc (paired_imp (fun p (kv : Key × V) z => tupSet hD18 (noTup_lst _) (stUp z s20)) hPP) (tupSet hD18 (noTup_lst _) q2)
              · rw [e1]
                exact Pr2.snoc ((hR.up s20).set hD18 (noTup_lst _)) (tupSet hD18 (noTup_lst _) q1)
            obtain ⟨s17, gs, kvs, hD, hPP, hR⟩ := z
            rw [List.length_map, List.take_length] at hR
            obtain ⟨vf, rfl⟩ := vfK_of nsN hR.keys
            have B10 := B9.same s17
            have ent := fun ks => ((ent ks).up (er_same _ _)).up s17
            clear hn hnF s17 nD
            refine ⟨D, gs, _, rfl, SqL.of hD, hPP, fun du ndu => ?_⟩
            rw [merge_all _ [] (by rw [List.nil_append, kvF_keys]; exact inr_nd nsN), List.nil_append]
            have s1 := Same.new ndu (o := .dK (kvF ns vf))
            have hdu := upd_same (H := G) (a := du) (o := .dK (kvF ns vf))
            have B10 := B10.same s1
            have hR := hR.up s1
            have ent := fun ks => (ent ks).up s1
            refine cast_heap (b := upd G du (.dK (kvF ns vf))) rfl ?_
            generalize upd G du (.dK (kvF ns vf)) = G2 at hdu B10 hR ent ⊢
            clear s1 ndu hD hPP
            dsimp only [List.set]
            have mr := List.getElem_mem hm
            refine ⟨_, rfl, _, rfl, _, rfl, du, _, rfl, .inl ⟨_, .inr ns[m], hdu, rfl, by rw [kvF_len]; exact Nat.lt_of_le_of_lt (show ns.length ≤ 5 by omega) (by decide), rfl⟩, ?_⟩
            rw [putK_F mr]
            have bt := But.upd (r := du) (H := G2) (o := .dK (kvF ns fun n => if n = ns[m] then u else vf n))
            have sk := bt.kept hdu rfl
            have good : ∀ n ∈ ns, n ≠ ns[m] → ∃ a, (if n = ns[m] then u else vf n) = .ref a ∧ SqT K G2 a [.str "clock", .int 0] := fun n mn ne => by
              obtain ⟨a, hv, q⟩ := hR.val nsN mn
              rw [kvF_val nsN mn] at hv
              rw [if_neg ne]
              exact ⟨a, Option.some.inj hv, q⟩
            have B11 := B10.but hdu notSt_dK bt
            have hdu2 := upd_same (H := G2) (a := du) (o := .dK (kvF ns fun n => if n = ns[m] then u else vf n))
            have ent := fun ks => (ent ks).kept sk fun a e => bt _ _ e (ndk_of hdu (by omega) a e)
            have good : ∀ n ∈ ns, n ≠ ns[m] → ∃ a, (if n = ns[m] then u else vf n) = .ref a ∧ SqT K (upd G2 du (.dK (kvF ns fun n => if n = ns[m] then u else vf n))) a [.str "clock", .int 0] := fun n mn ne => by
              obtain ⟨a, e, q⟩ := good n mn ne
              exact ⟨a, e, sqt_kept sk q⟩
            generalize upd G2 du (.dK (kvF ns fun n => if n = ns[m] then u else vf n)) = G3 at B11 hdu2 ent good ⊢
            clear B9 B10 hdu hR bt sk
            refine ⟨B11.tab, fun C1 eN tb1 => ?_⟩
            have B12 := B11.ext eN tb1
            have hdu := eN _ _ hdu2 (fun _ z => nomatch z)
            refine third7 (CB := A.a_BadRow) (CR := A.a_Round) (CH := A.a_Book) (i := 11) (ns := ns) (m := m) rfl ⟨nsN, fun n mn => ⟨pool_nm n (hpool n mn), nok n mn⟩, (fun k m => nomatch m), by omega⟩ hm hdu (fun n mn ne => by
              obtain ⟨a, e, q⟩ := good n mn ne
              exact ⟨a, e, sqt_kept (ext_kept eN) q⟩) (by rw [if_pos rfl]; exact (ent _).ext eN) (ndk_of hdu (by omega)) (fun v1 H20 bt vt => ?_)
            have B13 := B12.but hdu notSt_dK bt
            clear B11 B12 hdu2 ent good eN tb1 hdu
            refine ⟨_, rfl, by show 2 ≤ sizeLine; decide, fun t2 nt2 => ?_⟩
            have s1 := Same.new nt2 (o := .tup [.str "row", .str ns[m]])
            obtain ⟨d1, dv1, du1, dd1, dw1⟩ := both_same (vt.up s1) (u := .ref t2) ⟨t2, rfl, upd_same, (fun _ z => nomatch z)⟩
            refine ⟨v1, .ref t2, d1, rfl, dv1, du1, dd1, dw1, fun H22 s2 => ⟨_, rfl, iteF ?_⟩⟩
            exact ⟨_, _, _, _, _, _, _, _, _, _, _, rfl, ((B13.same s1).same s2).le (by omega) (by omega)⟩
end
end K5
set_option Elab.async false
set_option linter.all false
set_option maxRecDepth 100000
set_option maxHeartbeats 0
namespace K5
open PySem PySem.Spec PyProof.Rows L2
theorem tabs0 {H : Hp} (hT : ∀ p ∈ ([(494, 492)] : List (Addr × Addr)), H p.2 = some (.tbl #[])) : LamX.Tabs (T1 492) H := fun p hp => by
  have z := inT1 hp
  rw [z]; exact LamX.TabS.nil (hT (494, 492) (by simp))
theorem funOf {K : PySem.W.Frag} {x qual : Str} {st : Stmt} {f : Addr} {fd : FuncData} (F : FunD K x qual (defArgs st) (defBody st) (defScope st) [] [] f fd) : Fun K x qual st f fd := by
  obtain ⟨oc, od, dV, kV, doc, pm, an, cdv, ct, osl, e, lk, hc, hd, _⟩ := F.ex
  have ed : dV = .none := hd.elim (fun z => z.2) (fun z => absurd rfl z.1)
  subst ed
  exact ⟨⟨oc, od, kV, doc, pm, an, cdv, ct, osl, e, lk, hc⟩, F.kp⟩
theorem factsX {P : Program} {w : World} {K : PySem.W.Frag} {h : Heap} {mg : Str → Option Value} {fz : Addr} (X : K.In h) (G : h.Ns mainGlobals mg) (hfa : mg ("law" : Str) = some (.ref fz)) (c : He.SaysD faL fnL K) (ex : exB K = true) :
    ∃ fd : FuncData, (∀ (s : Shared) (v : Value), BindsTo s fd ⟨[v], []⟩ [("_law_script", v)]) ∧ ∀ base : Heap, K.In base → base.Ns mainGlobals mg → LamX.TabB base mg 494 492 → FnOk P w K mg base CX0 12 fz fd ["_law_script"] (spLawT K 492) := by
  obtain ⟨z_is_integer, F_is_integer⟩ := c.def_ 0 (d := dd_is_integer) (by rfl)
  obtain ⟨z_is_list, F_is_list⟩ := c.def_ 1 (d := dd_is_list) (by rfl)
  obtain ⟨z_is_name, F_is_name⟩ := c.def_ 2 (d := dd_is_name) (by rfl)
  obtain ⟨z_alike, F_alike⟩ := c.def_ 3 (d := dd_alike) (by rfl)
  obtain ⟨z_copied, F_copied⟩ := c.def_ 4 (d := dd_copied) (by rfl)
  obtain ⟨z_BadRow___init__, F_BadRow___init__⟩ := c.def_ 5 (d := dd_BadRow___init__) (by rfl)
  obtain ⟨z_Round___init__, F_Round___init__⟩ := c.def_ 6 (d := dd_Round___init__) (by rfl)
  obtain ⟨z_Hanging___init__, F_Hanging___init__⟩ := c.def_ 7 (d := dd_Hanging___init__) (by rfl)
  obtain ⟨z_check_rows, F_check_rows⟩ := c.def_ 8 (d := dd_check_rows) (by rfl)
  obtain ⟨z_is_hook, F_is_hook⟩ := c.def_ 9 (d := dd_is_hook) (by rfl)
  obtain ⟨z_check_rounds, F_check_rounds⟩ := c.def_ 10 (d := dd_check_rounds) (by rfl)
  obtain ⟨z_round_from, F_round_from⟩ := c.def_ 11 (d := dd_round_from) (by rfl)
  obtain ⟨z_Book___init__, F_Book___init__⟩ := c.def_ 12 (d := dd_Book___init__) (by rfl)
  obtain ⟨z_check_entries, F_check_entries⟩ := c.def_ 13 (d := dd_check_entries) (by rfl)
  obtain ⟨z_is_entry, F_is_entry⟩ := c.def_ 14 (d := dd_is_entry) (by rfl)
  obtain ⟨z_is_wait, F_is_wait⟩ := c.def_ 15 (d := dd_is_wait) (by rfl)
  obtain ⟨z__law_fresh, F__law_fresh⟩ := c.def_ 16 (d := dd__law_fresh) (by rfl)
  obtain ⟨z__law_take, F__law_take⟩ := c.def_ 17 (d := dd__law_take) (by rfl)
  obtain ⟨z__law_one, F__law_one⟩ := c.def_ 18 (d := dd__law_one) (by rfl)
  obtain ⟨z__law_mix, F__law_mix⟩ := c.def_ 19 (d := dd__law_mix) (by rfl)
  obtain ⟨z__law_same, F__law_same⟩ := c.def_ 20 (d := dd__law_same) (by rfl)
  obtain ⟨z__law_names, F__law_names⟩ := c.def_ 21 (d := dd__law_names) (by rfl)
  obtain ⟨z__law_rising, F__law_rising⟩ := c.def_ 22 (d := dd__law_rising) (by rfl)
  obtain ⟨z__law_hung, F__law_hung⟩ := c.def_ 23 (d := dd__law_hung) (by rfl)
  obtain ⟨z__law_is_name, F__law_is_name⟩ := c.def_ 24 (d := dd__law_is_name) (by rfl)
  obtain ⟨z__law_due, F__law_due⟩ := c.def_ 25 (d := dd__law_due) (by rfl)
  obtain ⟨z__law_tried, F__law_tried⟩ := c.def_ 26 (d := dd__law_tried) (by rfl)
  obtain ⟨z_law, F_law⟩ := c.def_ 27 (d := dd_law) (by rfl)
  have gl : ∀ {x : Str} (i : Nat), faL[i]? = some (.glo x) → mg x = some (.ref (He.ga K x)) := fun i e => He.glo_ok X G (c.fact i e)
  have fr : ∀ {x : Str} (i : Nat), faL[i]? = some (.free x) → mg x = none := fun i e => He.free_ok X G (c.fact i e)
  have e := hfa.symm.trans (gl 23 (by rfl))
  cases e
  have T : Txt K mg ({ a_is_integer := (He.ga K "is_integer"), d_is_integer := z_is_integer, a_is_list := (He.ga K "is_list"), d_is_list := z_is_list, a_is_name := (He.ga K "is_name"), d_is_name := z_is_name, a_alike := (He.ga K "alike"), d_alike := z_alike, a_copied := (He.ga K "copied"), d_copied := z_copied, a_BadRow___init__ := (He.ma K (He.ga K "BadRow") "__init__"), d_BadRow___init__ := z_BadRow___init__, a_Round___init__ := (He.ma K (He.ga K "Round") "__init__"), d_Round___init__ := z_Round___init__, a_Hanging___init__ := (He.ma K (He.ga K "Hanging") "__init__"), d_Hanging___init__ := z_Hanging___init__, a_check_rows := (He.ga K "check_rows"), d_check_rows := z_check_rows, a_is_hook := (He.ga K "is_hook"), d_is_hook := z_is_hook, a_check_rounds := (He.ga K "check_rounds"), d_check_rounds := z_check_rounds, a_round_from := (He.ga K "round_from"), d_round_from := z_round_from, a_Book___init__ := (He.ma K (He.ga K "Book") "__init__"), d_Book___init__ := z_Book___init__, a_check_entries := (He.ga K "check_entries"), d_check_entries := z_check_entries, a_is_entry := (He.ga K "is_entry"), d_is_entry := z_is_entry, a_is_wait := (He.ga K "is_wait"), d_is_wait := z_is_wait, a__law_fresh := (He.ga K "_law_fresh"), d__law_fresh := z__law_fresh, a__law_take := (He.ga K "_law_take"), d__law_take := z__law_take, a__law_one := (He.ga K "_law_one"), d__law_one := z__law_one, a__law_mix := (He.ga K "_law_mix"), d__law_mix := z__law_mix, a__law_same := (He.ga K "_law_same"), d__law_same := z__law_same, a__law_names := (He.ga K "_law_names"), d__law_names := z__law_names, a__law_rising := (He.ga K "_law_rising"), d__law_rising := z__law_rising, a__law_hung := (He.ga K "_law_hung"), d__law_hung := z__law_hung, a__law_is_name := (He.ga K "_law_is_name"), d__law_is_name := z__law_is_name, a__law_due := (He.ga K "_law_due"), d__law_due := z__law_due, a__law_tried := (He.ga K "_law_tried"), d__law_tried := z__law_tried, a_law := (He.ga K "law"), d_law := z_law, a_BadRow := He.ga K "BadRow", a_Round := He.ga K "Round", a_Hanging := He.ga K "Hanging", a_Book := He.ga K "Book" } : Ad) := {
    f_is_integer := funOf (st := s_is_integer) F_is_integer
    g_is_integer := gl 0 (by rfl)
    b_is_integer := (funOf (st := s_is_integer) F_is_integer).binds fun _ _ _ _ _ _ us hl => match us, hl with | [_], _ => rfl
    f_is_list := funOf (st := s_is_list) F_is_list
    g_is_list := gl 1 (by rfl)
    b_is_list := (funOf (st := s_is_list) F_is_list).binds fun _ _ _ _ _ _ us hl => match us, hl with | [_], _ => rfl
    f_is_name := funOf (st := s_is_name) F_is_name
    g_is_name := gl 2 (by rfl)
    b_is_name := (funOf (st := s_is_name) F_is_name).binds fun _ _ _ _ _ _ us hl => match us, hl with | [_], _ => rfl
    f_alike := funOf (st := s_alike) F_alike
    g_alike := gl 3 (by rfl)
    b_alike := (funOf (st := s_alike) F_alike).binds fun _ _ _ _ _ _ us hl => match us, hl with | [_, _], _ => rfl
    f_copied := funOf (st := s_copied) F_copied
    g_copied := gl 4 (by rfl)
    b_copied := (funOf (st := s_copied) F_copied).binds fun _ _ _ _ _ _ us hl => match us, hl with | [_], _ => rfl
    f_BadRow___init__ := funOf (st := s_BadRow___init__) F_BadRow___init__
    b_BadRow___init__ := (funOf (st := s_BadRow___init__) F_BadRow___init__).binds fun _ _ _ _ _ _ us hl => match us, hl with | [_, _], _ => rfl
    f_Round___init__ := funOf (st := s_Round___init__) F_Round___init__
    b_Round___init__ := (funOf (st := s_Round___init__) F_Round___init__).binds fun _ _ _ _ _ _ us hl => match us, hl with | [_, _], _ => rfl
    f_Hanging___init__ := funOf (st := s_Hanging___init__) F_Hanging___init__
    b_Hanging___init__ := (funOf (st := s_Hanging___init__) F_Hanging___init__).binds fun _ _ _ _ _ _ us hl => match us, hl with | [_, _], _ => rfl
    f_check_rows := funOf (st := s_check_rows) F_check_rows
    g_check_rows := gl 5 (by rfl)
    b_check_rows := (funOf (st := s_check_rows) F_check_rows).binds fun _ _ _ _ _ _ us hl => match us, hl with | [_], _ => rfl
    f_is_hook := funOf (st := s_is_hook) F_is_hook
    g_is_hook := gl 6 (by rfl)
    b_is_hook := (funOf (st := s_is_hook) F_is_hook).binds fun _ _ _ _ _ _ us hl => match us, hl with | [_, _], _ => rfl
    f_check_rounds := funOf (st := s_check_rounds) F_check_rounds
    g_check_rounds := gl 7 (by rfl)
    b_check_rounds := (funOf (st := s_check_rounds) F_check_rounds).binds fun _ _ _ _ _ _ us hl => match us, hl with | [_], _ => rfl
    f_round_from := funOf (st := s_round_from) F_round_from
    g_round_from := gl 8 (by rfl)
    b_round_from := (funOf (st := s_round_from) F_round_from).binds fun _ _ _ _ _ _ us hl => match us, hl with | [_, _], _ => rfl
    f_Book___init__ := funOf (st := s_Book___init__) F_Book___init__
    b_Book___init__ := (funOf (st := s_Book___init__) F_Book___init__).binds fun _ _ _ _ _ _ us hl => match us, hl with | [_, _], _ => rfl
    f_check_entries := funOf (st := s_check_entries) F_check_entries
    g_check_entries := gl 9 (by rfl)
    b_check_entries := (funOf (st := s_check_entries) F_check_entries).binds fun _ _ _ _ _ _ us hl => match us, hl with | [_], _ => rfl
    f_is_entry := funOf (st := s_is_entry) F_is_entry
    g_is_entry := gl 10 (by rfl)
    b_is_entry := (funOf (st := s_is_entry) F_is_entry).binds fun _ _ _ _ _ _ us hl => match us, hl with | [_, _], _ => rfl
    f_is_wait := funOf (st := s_is_wait) F_is_wait
    g_is_wait := gl 11 (by rfl)
    b_is_wait := (funOf (st := s_is_wait) F_is_wait).binds fun _ _ _ _ _ _ us hl => match us, hl with | [_], _ => rfl
    f__law_fresh := funOf (st := s__law_fresh) F__law_fresh
    g__law_fresh := gl 12 (by rfl)
    b__law_fresh := (funOf (st := s__law_fresh) F__law_fresh).binds fun _ _ _ _ _ _ us hl => match us, hl with | [_], _ => rfl
    f__law_take := funOf (st := s__law_take) F__law_take
    g__law_take := gl 13 (by rfl)
    b__law_take := (funOf (st := s__law_take) F__law_take).binds fun _ _ _ _ _ _ us hl => match us, hl with | [_, _], _ => rfl
    f__law_one := funOf (st := s__law_one) F__law_one
    g__law_one := gl 14 (by rfl)
    b__law_one := (funOf (st := s__law_one) F__law_one).binds fun _ _ _ _ _ _ us hl => match us, hl with | [_, _], _ => rfl
    f__law_mix := funOf (st := s__law_mix) F__law_mix
    g__law_mix := gl 15 (by rfl)
    b__law_mix := (funOf (st := s__law_mix) F__law_mix).binds fun _ _ _ _ _ _ us hl => match us, hl with | [_, _], _ => rfl
    f__law_same := funOf (st := s__law_same) F__law_same
    g__law_same := gl 16 (by rfl)
    b__law_same := (funOf (st := s__law_same) F__law_same).binds fun _ _ _ _ _ _ us hl => match us, hl with | [_, _], _ => rfl
    f__law_names := funOf (st := s__law_names) F__law_names
    g__law_names := gl 17 (by rfl)
    b__law_names := (funOf (st := s__law_names) F__law_names).binds fun _ _ _ _ _ _ us hl => match us, hl with | [_, _], _ => rfl
    f__law_rising := funOf (st := s__law_rising) F__law_rising
    g__law_rising := gl 18 (by rfl)
    b__law_rising := (funOf (st := s__law_rising) F__law_rising).binds fun _ _ _ _ _ _ us hl => match us, hl with | [_], _ => rfl
    f__law_hung := funOf (st := s__law_hung) F__law_hung
    g__law_hung := gl 19 (by rfl)
    b__law_hung := (funOf (st := s__law_hung) F__law_hung).binds fun _ _ _ _ _ _ us hl => match us, hl with | [_, _], _ => rfl
    f__law_is_name := funOf (st := s__law_is_name) F__law_is_name
    g__law_is_name := gl 20 (by rfl)
    b__law_is_name := (funOf (st := s__law_is_name) F__law_is_name).binds fun _ _ _ _ _ _ us hl => match us, hl with | [_], _ => rfl
    f__law_due := funOf (st := s__law_due) F__law_due
    g__law_due := gl 21 (by rfl)
    b__law_due := (funOf (st := s__law_due) F__law_due).binds fun _ _ _ _ _ _ us hl => match us, hl with | [_, _], _ => rfl
    f__law_tried := funOf (st := s__law_tried) F__law_tried
    g__law_tried := gl 22 (by rfl)
    b__law_tried := (funOf (st := s__law_tried) F__law_tried).binds fun _ _ _ _ _ _ us hl => match us, hl with | [_], _ => rfl
    f_law := funOf (st := s_law) F_law
    g_law := gl 23 (by rfl)
    b_law := (funOf (st := s_law) F_law).binds fun _ _ _ _ _ _ us hl => match us, hl with | [_], _ => rfl
    g_CLOCK := He.str_ok X G (c.fact 28 (by rfl))
    g_LETTERS := He.str_ok X G (c.fact 29 (by rfl))
    g_LONGEST_NAME := He.int_ok X G (c.fact 30 (by rfl))
    len := fr 31 (by rfl)
    abs := fr 32 (by rfl)
    int := fr 33 (by rfl)
    list := fr 34 (by rfl)
    tuple := fr 35 (by rfl)
    bool := fr 36 (by rfl)
    str := fr 37 (by rfl)
    dict := fr 38 (by rfl)
    isinstance := fr 39 (by rfl)
    all := fr 40 (by rfl)
    any := fr 41 (by rfl)
    zip := fr 42 (by rfl)
    enumerate := fr 43 (by rfl)
    range := fr 44 (by rfl)
    sorted := fr 45 (by rfl)
    cl := He.cls_ok (c.fact (f := .cls "Hanging") 46 (by rfl))
    cl_B := He.cls_ok (c.fact (f := .cls "Book") 47 (by rfl))
    eBr := of_decide_eq_true (atB ex (i := 0) rfl)
    eRB := of_decide_eq_true (atB ex (i := 1) rfl)
    eRo := of_decide_eq_true (atB ex (i := 2) rfl)
    g_BadRow := He.glo_ok X G (c.fact (f := .glo "BadRow") 24 (by rfl))
    g_Book := He.glo_ok X G (c.fact (f := .glo "Book") 27 (by rfl))
    g_Hanging := He.glo_ok X G (c.fact (f := .glo "Hanging") 26 (by rfl))
    g_Round := He.glo_ok X G (c.fact (f := .glo "Round") 25 (by rfl))
    iBr := (mi_of (c.fact (f := .meth "BadRow" "__init__") 48 (by rfl))).1
    iRo := (mi_of (c.fact (f := .meth "Round" "__init__") 49 (by rfl))).1
    mkB := He.mkr_ok (c.fact (f := .mkr "Book") 50 (by rfl))
    mkH := He.mkr_ok (c.fact (f := .mkr "Hanging") 51 (by rfl))
    nBH := He.noat_ok (c.fact (f := .noat "Book" "hooks") 52 (by rfl))
    nBW := He.noat_ok (c.fact (f := .noat "Book" "waits") 53 (by rfl))
    nBr := He.noat_ok (c.fact (f := .noat "BadRow" "name") 54 (by rfl))
    nH := He.noat_ok (c.fact (f := .noat "Hanging" "hooks") 55 (by rfl))
    nRo := He.noat_ok (c.fact (f := .noat "Round" "names") 56 (by rfl))
    tBr := of_decide_eq_true (atB ex (i := 3) rfl)
    tRo := of_decide_eq_true (atB ex (i := 4) rfl)
    xBr := oex_of X (atB ex (i := 5) rfl) (atB ex (i := 6) rfl) (of_decide_eq_true (atB ex (i := 7) rfl)) (of_decide_eq_true (atB ex (i := 8) rfl)) (of_decide_eq_true (atB ex (i := 9) rfl)) (atB ex (i := 10) rfl)
    xRo := oex_of X (atB ex (i := 11) rfl) (atB ex (i := 12) rfl) (of_decide_eq_true (atB ex (i := 13) rfl)) (of_decide_eq_true (atB ex (i := 14) rfl)) (of_decide_eq_true (atB ex (i := 15) rfl)) (atB ex (i := 16) rfl)
    xfBr := L2.xfB_ok (atB ex (i := 17) rfl)
    xfRo := L2.xfB_ok (atB ex (i := 18) rfl) }
  obtain ⟨oc_law, od_law, dV_law, kV_law, doc_law, pm_law, an_law, cd_law, ct_law, osl_law, e_law, lk_law, hc_law, hd_law, _⟩ := F_law.ex
  have ed_law : dV_law = .none := hd_law.elim (fun z => z.2) (fun z => absurd rfl z.1)
  subst ed_law
  obtain ⟨c_law, ec_law⟩ := He.codeIn_ref hc_law
  subst ec_law
  rw [e_law] at lk_law
  have q_law : c_law = 494 := (He.codeOf_eq (K := K) (p := ("law", none)) lk_law rfl).symm.trans (of_decide_eq_true (atB ex (i := 19) rfl))
  subst q_law
  refine ⟨z_law, fun s v => ?_, fun base _ _ TB0 => by rw [e_law]; exact ok_lawT T lk_law hc_law  TB0⟩
  rw [e_law]
  exact .of_eq rfl
end K5
open PySem PySem.W PySem.Calls PyProof.Rows in
set_option maxHeartbeats 0 in
theorem PySem.Challenge.cw_cookcalls_k07_hangings_refused_holds : PySem.Challenge.rw_cookcalls_k07_hangings_refused.Holds := by
  w_on; o_law
  refine HandSHeadRun.head_any (r := OpenLaw.row PySem.Challenge.rw_cookcalls_k07_hangings_refused) (q := view (OpenLaw.row PySem.Challenge.rw_cookcalls_k07_hangings_refused).prog [50]) (H := K5.hkX) (ob := K5.obX) (M := 20000) (loose := K5.nmL) (d := HandSHeadRun.topDef (OpenLaw.row PySem.Challenge.rw_cookcalls_k07_hangings_refused).prog 50) (kwd := []) K5.obX_eq
    (by kernel_rfl) (fun s => by kernel_rfl) K5.runX (by kernel_rfl) (by kernel_rfl) (by kernel_rfl) (by rfl) (by first | assumption | decide +kernel) (by decide +kernel) ⟨rfl, rfl, rfl, rfl, rfl, by decide +kernel⟩ ?hw ?hc
  case hw => w_witness2
  case hc =>
    refine LamX.walk_ofTsE (l := PySem.Challenge.rw_cookcalls_k07_hangings_refused) (n := 63) (k := 12) (x := "_law_script") (CX := fun _ => L2.CX0) rfl (by decide) (by kernel_rfl) ⟨rfl, by decide, by decide⟩ ?F (fun _ _ _ _ _ z => z)
    intro w mg fz h Y G hmg0
    obtain ⟨K, KX, c⟩ := Y
    have hmg : mg ("law" : PySem.Str) = some (.ref fz) := by
      have e : (HandSHeadRun.topDef (OpenLaw.row PySem.Challenge.rw_cookcalls_k07_hangings_refused).prog 50).name = ("law" : PySem.Str) := by kernel_rfl
      rw [← e]
      exact hmg0
    obtain ⟨fd, hb, hF⟩ := K5.factsX (P := (PySem.Challenge.rw_cookcalls_k07_hangings_refused).prog) (w := w) KX G hmg c.d c.e
    have ou := fun p hp => He.ba (List.all_eq_true.mp c.o p hp)
    exact ⟨K, KX, fd, K5.tbL, K5.spLawT K 492, c.t, fun p hp => Option.isNone_iff_eq_none.mp (ou p hp).2, fun p hp => PySem.W.codeHd_of_K KX (ou p hp).1, hb, fun H a ns hl _ hT hS => ⟨a, ns, rfl, hS, hl, K5.tabs0 hT, fun _ => rfl⟩, fun base h1 h2 h3 => hF base h1 h2 (h3 _ (List.mem_cons_self ..))⟩
