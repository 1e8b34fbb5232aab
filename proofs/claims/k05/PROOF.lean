import PyProof.Rows.All
import Wide.All
import OpenK.AllK
import Wide.FinOn
import HandS.ForMost
import HandS.Style
import HandS.DictComp
import HandS.Defaults
import HandS.Walk
import KE.GoesMore
import PyProof.Draws
import HandS.Wide
import HandS.IsInst
import HandS.Deep
import HandS.TupAny
import HandS.Flow
import HandS.Zip
import HandS.More
import PySem.Challenge.RW_cookcalls_k05_wishes_made
set_option Elab.async false
set_option linter.all false
set_option maxRecDepth 100000
set_option maxHeartbeats 4000000
namespace EnT
open PySem PySem.Spec PyProof.Rows L2
/-! enumerate over a tuple, as a walk of the hand layer -/
theorem newOver {u : Value} {cell : Obj} {G : Heap → Prop} (B : Begins u cell G) :
    Meets (Builtin.«enumerate.__new__» ⟨[.type "enumerate", u], []⟩) (fun _ R z => G z.heap ∧
      R (.ok (.ret (.ref (z.heap.push cell).objs.size)))
        { z with heap := (z.heap.push cell).push { cls := .type "enumerate", data := .fields #[.none, .bool false, .ref z.heap.objs.size, rawInt 0, .none, .none] } }) :=
  .of_wp fun P w A R z hz => by
    obtain ⟨g0, gs, dr, tk, os⟩ := z; obtain ⟨hG, hR⟩ := hz
    have below := sub_enumerate
    have step : ∀ {A' : Around} {E : Value → Shared → Prop} {Q : Value → Shared → Prop}, Q (.ref g0.objs.size) ⟨g0.push cell, gs, dr, tk, os⟩ → wpAny (model P w) A' (pyIter u) Q E ⟨g0, gs, dr, tk, os⟩ :=
      fun z => B.iter P w _ _ ⟨g0, gs, dr, tk, os⟩ _ hG z
    wp_walk using step
    refine wpAny_stack_any fun _ => wpAny_pure ?_
    split
    · rename_i c _ _ _ _ _
      cases (c == Value.type "enumerate") <;> (wp_walk using step; exact ⟨_, rfl, hR⟩)
    · wp_walk using step
      exact ⟨_, rfl, hR⟩
theorem made {P : Program} {w : World} {A : Around} {E : Value → Shared → Prop} {z : Shared} {u : Value} {cell : Obj} {G : Heap → Prop} {Q : Value → Shared → Prop} (B : Begins u cell G) (hG : G z.heap)
    (k : ∀ g, IsEnum g (z.heap.objs.size + 1) z.heap.objs.size 0 .none → g.get? z.heap.objs.size = some cell → (∀ b o, z.heap.get? b = some o → g.get? b = some o) → Q (.ref (z.heap.objs.size + 1)) { z with heap := g }) :
    wpAny (model P w) A (call (.type "enumerate") [u]) Q E z := by
  refine callType_new F.called_enumerate (by decide) (F.typeCall_enumerate_1 _) (F.newCall_enumerate_1 _) (fun o => F.args_object_init_2 o _) F.entry_enumerate_new (newOver B) ⟨hG, ?_⟩
  have size : (z.heap.push cell).objs.size = z.heap.objs.size + 1 := Heap.size_push ..
  show _ ∧ _
  rw [size]
  generalize hg : (z.heap.push cell).push { cls := .type "enumerate", data := .fields #[.none, .bool false, .ref z.heap.objs.size, rawInt 0, .none, .none] } = g
  have top : IsEnum g (z.heap.objs.size + 1) z.heap.objs.size 0 .none := by
    rw [← hg, ← size]
    exact Heap.get?_push_size (z.heap.push cell) rfl
  refine ⟨⟨_, top, rfl⟩, k g top ?_ fun b o e => ?_⟩
  · rw [← hg]
    exact Heap.get?_push_of_some _ (Heap.get?_push_size _ B.free)
  · rw [← hg]
    exact Heap.get?_push_of_some _ (Heap.get?_push_of_some cell e)
/-- the tuple at a as it stands at each turn, each item in a new pair -/
def Iet (K : PySem.W.Frag) (a : Addr) : It where
  go i H := ∃ (ys : List V) (y : V), SqT K H a ys ∧ ys[i]? = some y
  yld i H v H' := ∃ T y, v = .ref T ∧ H T = none ∧ H' = upd H T (.tup [.int (i : Nat), y]) ∧ ∀ ys, SqT K H a ys → ys[i]? = some y
  stop i H := ∃ ys : List V, SqT K H a ys ∧ ys.length = i
theorem turns {P : Program} {w : World} {K : PySem.W.Frag} {elts : List Expr} {kk : Nat} {tpos : Pos} (a e j : Addr) :
    Turn P w K (.Tuple elts kk tpos) (Iet K a) [e, j] e (fun i g => (∃ old, IsEnum g e j ((i : Nat) : Int) old) ∧ g.IsTupleIter j a i ∧ e ≠ j) where
  mem := by simp
  obj := fun i g st b hb => by
    obtain ⟨⟨old, he⟩, ⟨o, ho, _, hd⟩, _⟩ := st
    have two : b = e ∨ b = j := by simpa using hb
    rcases two with q | q <;> subst q
    · exact ⟨_, he, fun v z => nomatch z⟩
    · exact ⟨o, ho, fun v z => by rw [hd] at z; cases z⟩
  keep := fun i g g' st k => by
    obtain ⟨⟨old, he⟩, hj, hne⟩ := st
    exact ⟨⟨old, k e (by simp) _ he⟩, hj.at fun o q => k j (by simp) o q, hne⟩
  item := by
    intro X eP ew eK hc i pins s σ H E I hf st hg
    subst eP ew eK
    obtain ⟨⟨old, he⟩, hj, hne⟩ := st
    obtain ⟨ys, y, hq, hy⟩ := hg
    obtain ⟨its, rv, p, _⟩ := I.tuple hq
    obtain ⟨u, hu, ru⟩ := rv.get hy
    have ht : s.heap.IsTuple a its.toArray := p
    have haj : a ≠ j := fun z => by
      obtain ⟨o1, e1, c1, _⟩ := hj
      obtain ⟨o2, e2, c2, _⟩ := ht
      rw [z, e1] at e2
      cases e2
      rw [c1] at c2
      exact absurd (Value.type.inj c2) (by decide)
    have hae : e ≠ a := fun z => by
      obtain ⟨o2, e2, c2, _⟩ := ht
      rw [← z, he] at e2
      cases e2
      exact absurd (Value.type.inj c2) (by decide)
    have lt : i < its.toArray.size := by
      have := rv.length
      have h1 := (List.getElem?_eq_some_iff.mp hy).1
      rw [List.size_toArray]
      omega
    have e_lt : e < s.heap.objs.size := Heap.lt_size he
    have hjl : j < s.heap.objs.size := by obtain ⟨_, q, _⟩ := hj; exact Heap.lt_size q
    refine wpAny_pyNext_enum_itemD (Draws.tuple (show X.A.in1.handled = none from I.ok.hd hc) j a haj its.toArray) he ⟨hj, ht⟩ lt hne (by simp [hne, hae]) fun x g tk hx ho hs hT hsz hk => ?_
    refine ⟨_, rfl, wpAny_letOwnedTupleGo_enum (s := { s with heap := g, toks := tk + 1 }) ho fun g' he' sb => ?_⟩
    have eu : x = u := by
      have h1 : its.toArray[i]? = some x := hx
      have h2 : its.toArray[i]? = some u := by simpa using hu
      rw [h1] at h2
      exact Option.some.inj h2
    subst eu
    have hT' : g'.get? s.heap.objs.size = some { cls := .type "tuple", data := .seq #[.int i tk, x] } := (sb.2 _ (Nat.ne_of_gt e_lt)).trans hT
    have fresh : ObjOk X.prog X.w (upd H s.heap.objs.size (.tup [.int (i : Nat), y])) g' s.heap.objs.size (.tup [.int (i : Nat), y]) :=
      ⟨by show 2 ≤ sizeLine; decide, [.int i tk, x], .cons ⟨_, rfl⟩ (.cons ru .nil), ⟨_, hT', rfl, _, rfl⟩⟩
    have I1 : Inv X pins σ (upd H s.heap.objs.size (.tup [.int (i : Nat), y])) { s with heap := g', toks := tk + 1 } :=
      I.turnedNew (ch := [e, j]) (fun b o hb q => (sb.2 b (fun z => hb (by simp [z]))).trans (hk b o (fun z => hb (by simp [z])) (fun z => hb (by simp [z])) q)) hf (Nat.le_refl _) fresh
    refine ⟨.ref s.heap.objs.size, _, I1, rfl, ⟨_, y, rfl, I.hok.fresh (Nat.le_refl _), rfl, fun zs hz => by rw [I.tuple_inj hz hq]; exact hy⟩, ⟨⟨x, ?_⟩, hs.1.at fun o q => (sb.2 j (Ne.symm hne)).trans q, hne⟩, fun b hb => ?_⟩
    · have next : ((i + 1 : Nat) : Int) = (i : Int) + 1 := by omega
      rw [next]; exact he'
    · have old2 : b < s.heap.objs.size := by
        have two : b = e ∨ b = j := by simpa using hb
        rcases two with q | q <;> (rw [q]; assumption)
      rw [upd_ne (Nat.ne_of_lt old2)]
      exact (hf b hb).1
  done := by
    intro X eP ew eK hc i pins s σ H E I hf st hg
    subst eP ew eK
    obtain ⟨⟨old, he⟩, hj, hne⟩ := st
    obtain ⟨ys, hq, hy⟩ := hg
    obtain ⟨its, rv, p, _⟩ := I.tuple hq
    obtain ⟨f0, f1, f2, f3, f4, f5⟩ := hf j (by simp)
    have ht : s.heap.IsTuple a its.toArray := p
    have haj : a ≠ j := fun z => by
      obtain ⟨o1, e1, c1, _⟩ := hj
      obtain ⟨o2, e2, c2, _⟩ := ht
      rw [z, e1] at e2
      cases e2
      rw [c1] at c2
      exact absurd (Value.type.inj c2) (by decide)
    have sz : its.toArray.size = i := by
      have := rv.length
      rw [List.size_toArray]
      omega
    have D := Draws.tuple (prog := X.prog) (w := X.w) (show X.A.in1.handled = none from I.ok.hd hc) j a haj its.toArray
    rw [sz] at D
    exact wpAny_pyNext_enum_endD D he ⟨hj, ht⟩ fun g eb => ⟨rfl, I.turned (t' := s.toks) (fun b o hb q => eb b o hb q) f0 f1 f3 f4 f5⟩
  self := fun A i s Q E st k => by
    obtain ⟨⟨_, he⟩, _⟩ := st
    exact wpAny_pyIter_enum he k
def iEnumT (K : PySem.W.Frag) (ta : TA) : TI := fun σ H R => ta σ H fun vs H1 => ∃ a ys, vs = [V.ref a] ∧ SqT K H1 a ys ∧ R (Iet K a) H1
theorem pi_enumT {X : Cx} {e : Expr} {ta : TA} {p pos tpos : Pos} {elts : List Expr} {kk : Nat} (gl : Gl X "enumerate") (free : X.mg "enumerate" = none) (ha : PA X [e] ta) (hs : starEach [e] X.env = [(false, eval e X.env)] := by rfl) :
    PI X (.Tuple elts kk tpos) (.Call (.Name "enumerate" p) [e] [] pos) (iEnumT X.K ta) := by
  refine ⟨fun pins s σ H R I hyp => ?_⟩
  refine Call_ (ld_blt I gl free boot_enumerate (PyProof.Rows.callWith_type1 (thn (ha.run pos pins s σ H _ I hyp) fun us s1 ⟨vs, H1, I1, r1, q1⟩ => ?_) hs rfl))
  obtain ⟨a, ys, ex, hq, q⟩ := q1
  subst ex
  cases r1 with
  | cons r rr =>
    cases rr
    cases r
    obtain ⟨its, rv, p', _⟩ := I1.tuple hq
    have ht : s1.heap.IsTuple a its.toArray := p'
    refine made (begins_tuple a its.toArray) ht fun g he hj hk => wpAny_pyIter_enum he ?_
    have I2 : Inv X pins σ H1 { s1 with heap := g } := I1.kept (t' := s1.toks) hk
    refine ⟨s1.heap.objs.size + 1, [s1.heap.objs.size + 1, s1.heap.objs.size], _, _, H1, rfl, I2, turns a (s1.heap.objs.size + 1) s1.heap.objs.size, ⟨⟨.none, he⟩, ⟨_, hj, rfl, rfl⟩, Nat.succ_ne_self _⟩, fun b hb => ?_, q⟩
    have low : s1.heap.objs.size ≤ b := by
      have two : b = s1.heap.objs.size + 1 ∨ b = s1.heap.objs.size := by simpa using hb
      rcases two with z | z <;> rw [z]
      · exact Nat.le_add_right _ _
      · exact Nat.le_refl _
    exact I1.fpOk low (I1.hok.fresh low)
/-- one of two walks -/
theorem pi_or {X : Cx} {tg e : Expr} {t u : TI} (h : PI X tg e t) (k : PI X tg e u) : PI X tg e (fun σ H R => t σ H R ∨ u σ H R) :=
  ⟨fun pins s σ H R I q => q.elim (h.run pins s σ H R I) (k.run pins s σ H R I)⟩
theorem walk_enumT {K : PySem.W.Frag} {a : Addr} {xs : List V} : Walk (Iet K a) xs.length (fun H => SqT K H a xs) (YPair (fun i => some (.int (i : Nat))) (fun i => xs[i]?)) :=
  ⟨fun _ _ hi q => ⟨xs, _, q, List.getElem?_eq_getElem hi⟩, fun _ q => ⟨xs, q, rfl⟩, fun i H v H' _ q y => by
    obtain ⟨T, x, e1, e2, e3, e4⟩ := y
    exact ⟨T, _, x, e1, e2, e3, rfl, e4 xs q⟩⟩
end EnT
namespace K5
open PySem L2
def top (i : Nat) : Stmt := PySem.Challenge.pw_cookcalls_k05_wishes_made.main.body.getD i (.Pass ⟨0, 0, 0, 0⟩)
abbrev s_is_integer : Stmt := top 5
abbrev N_is_integer : List Str := ["thing"]
abbrev P_is_integer : List Str := ["thing"]
theorem sc_is_integer : FnScope N_is_integer P_is_integer (defScope s_is_integer) := ⟨rfl, rfl, rfl, by decide +kernel, rfl, by decide +kernel, by decide +kernel⟩
abbrev s_is_list : Stmt := top 6
abbrev N_is_list : List Str := ["thing"]
abbrev P_is_list : List Str := ["thing"]
theorem sc_is_list : FnScope N_is_list P_is_list (defScope s_is_list) := ⟨rfl, rfl, rfl, by decide +kernel, rfl, by decide +kernel, by decide +kernel⟩
abbrev s_is_name : Stmt := top 7
abbrev N_is_name : List Str := ["thing", "sign"]
abbrev P_is_name : List Str := ["thing"]
theorem sc_is_name : FnScope N_is_name P_is_name (defScope s_is_name) := ⟨rfl, rfl, rfl, by decide +kernel, rfl, by decide +kernel, by decide +kernel⟩
abbrev s_is_dish : Stmt := top 8
abbrev N_is_dish : List Str := ["thing", "dishes"]
abbrev P_is_dish : List Str := ["thing", "dishes"]
theorem sc_is_dish : FnScope N_is_dish P_is_dish (defScope s_is_dish) := ⟨rfl, rfl, rfl, by decide +kernel, rfl, by decide +kernel, by decide +kernel⟩
abbrev s_is_bounds : Stmt := top 18
abbrev N_is_bounds : List Str := ["thing", "least", "most"]
abbrev P_is_bounds : List Str := ["thing"]
theorem sc_is_bounds : FnScope N_is_bounds P_is_bounds (defScope s_is_bounds) := ⟨rfl, rfl, rfl, by decide +kernel, rfl, by decide +kernel, by decide +kernel⟩
abbrev s_is_moment : Stmt := top 19
abbrev N_is_moment : List Str := ["thing", "dishes"]
abbrev P_is_moment : List Str := ["thing", "dishes"]
theorem sc_is_moment : FnScope N_is_moment P_is_moment (defScope s_is_moment) := ⟨rfl, rfl, rfl, by decide +kernel, rfl, by decide +kernel, by decide +kernel⟩
abbrev s_is_wish : Stmt := top 20
abbrev N_is_wish : List Str := ["thing", "dishes", "one", "other", "most"]
abbrev P_is_wish : List Str := ["thing", "dishes"]
theorem sc_is_wish : FnScope N_is_wish P_is_wish (defScope s_is_wish) := ⟨rfl, rfl, rfl, by decide +kernel, rfl, by decide +kernel, by decide +kernel⟩
abbrev s_as_moment : Stmt := top 22
abbrev N_as_moment : List Str := ["moment"]
abbrev P_as_moment : List Str := ["moment"]
theorem sc_as_moment : FnScope N_as_moment P_as_moment (defScope s_as_moment) := ⟨rfl, rfl, rfl, by decide +kernel, rfl, by decide +kernel, by decide +kernel⟩
abbrev s_as_wish : Stmt := top 23
abbrev N_as_wish : List Str := ["wish", "one", "other", "most"]
abbrev P_as_wish : List Str := ["wish"]
theorem sc_as_wish : FnScope N_as_wish P_as_wish (defScope s_as_wish) := ⟨rfl, rfl, rfl, by decide +kernel, rfl, by decide +kernel, by decide +kernel⟩
abbrev s_Meal___init__ : Stmt := inClass (top 25) 0
abbrev N_Meal___init__ : List Str := ["self", "dishes", "wishes", "stations", "name", "wish", "station"]
abbrev P_Meal___init__ : List Str := ["self", "dishes", "wishes", "stations"]
theorem sc_Meal___init__ : FnScope N_Meal___init__ P_Meal___init__ (defScope s_Meal___init__) := ⟨rfl, rfl, rfl, by decide +kernel, rfl, by decide +kernel, by decide +kernel⟩
abbrev s_Meal_wishes : Stmt := inClass (top 25) 2
abbrev N_Meal_wishes : List Str := ["self"]
abbrev P_Meal_wishes : List Str := ["self"]
theorem sc_Meal_wishes : FnScope N_Meal_wishes P_Meal_wishes (defScope s_Meal_wishes) := ⟨rfl, rfl, rfl, by decide +kernel, rfl, by decide +kernel, by decide +kernel⟩
abbrev s_check_dishes : Stmt := top 26
abbrev N_check_dishes : List Str := ["dishes", "name"]
abbrev P_check_dishes : List Str := ["dishes"]
theorem sc_check_dishes : FnScope N_check_dishes P_check_dishes (defScope s_check_dishes) := ⟨rfl, rfl, rfl, by decide +kernel, rfl, by decide +kernel, by decide +kernel⟩
abbrev s_check_wishes : Stmt := top 27
abbrev N_check_wishes : List Str := ["wishes", "dishes", "index", "thing"]
abbrev P_check_wishes : List Str := ["wishes", "dishes"]
theorem sc_check_wishes : FnScope N_check_wishes P_check_wishes (defScope s_check_wishes) := ⟨rfl, rfl, rfl, by decide +kernel, rfl, by decide +kernel, by decide +kernel⟩
abbrev s_check_stations : Stmt := top 28
abbrev N_check_stations : List Str := ["stations", "dishes", "index", "thing"]
abbrev P_check_stations : List Str := ["stations", "dishes"]
theorem sc_check_stations : FnScope N_check_stations P_check_stations (defScope s_check_stations) := ⟨rfl, rfl, rfl, by decide +kernel, rfl, by decide +kernel, by decide +kernel⟩
abbrev s_together : Stmt := top 29
abbrev N_together : List Str := ["names", "most", "wishes", "at", "earlier", "later"]
abbrev P_together : List Str := ["names", "most"]
theorem sc_together : FnScope N_together P_together (defScope s_together) := ⟨rfl, rfl, rfl, by decide +kernel, rfl, by decide +kernel, by decide +kernel⟩
abbrev s_keeping : Stmt := top 30
abbrev N_keeping : List Str := ["name", "others", "most", "other"]
abbrev P_keeping : List Str := ["name", "others", "most"]
theorem sc_keeping : FnScope N_keeping P_keeping (defScope s_keeping) := ⟨rfl, rfl, rfl, by decide +kernel, rfl, by decide +kernel, by decide +kernel⟩
abbrev s_ready_by : Stmt := top 31
abbrev N_ready_by : List Str := ["names", "minute", "name"]
abbrev P_ready_by : List Str := ["names", "minute"]
theorem sc_ready_by : FnScope N_ready_by P_ready_by (defScope s_ready_by) := ⟨rfl, rfl, rfl, by decide +kernel, rfl, by decide +kernel, by decide +kernel⟩
abbrev s_behind : Stmt := top 32
abbrev N_behind : List Str := ["name", "other", "least"]
abbrev P_behind : List Str := ["name", "other", "least"]
theorem sc_behind : FnScope N_behind P_behind (defScope s_behind) := ⟨rfl, rfl, rfl, by decide +kernel, rfl, by decide +kernel, by decide +kernel⟩
abbrev s__law_fresh : Stmt := top 34
abbrev N__law_fresh : List Str := ["_law_script"]
abbrev P__law_fresh : List Str := ["_law_script"]
theorem sc__law_fresh : FnScope N__law_fresh P__law_fresh (defScope s__law_fresh) := ⟨rfl, rfl, rfl, by decide +kernel, rfl, by decide +kernel, by decide +kernel⟩
abbrev s__law_take : Stmt := top 35
abbrev N__law_take : List Str := ["_law_state", "_law_many", "_law_cell", "_law_digit", "_law_mixed"]
abbrev P__law_take : List Str := ["_law_state", "_law_many"]
theorem sc__law_take : FnScope N__law_take P__law_take (defScope s__law_take) := ⟨rfl, rfl, rfl, by decide +kernel, rfl, by decide +kernel, by decide +kernel⟩
abbrev s__law_one : Stmt := top 36
abbrev N__law_one : List Str := ["_law_state", "_law_things"]
abbrev P__law_one : List Str := ["_law_state", "_law_things"]
theorem sc__law_one : FnScope N__law_one P__law_one (defScope s__law_one) := ⟨rfl, rfl, rfl, by decide +kernel, rfl, by decide +kernel, by decide +kernel⟩
abbrev s__law_mix : Stmt := top 37
abbrev N__law_mix : List Str := ["_law_state", "_law_things", "_law_left", "_law_found"]
abbrev P__law_mix : List Str := ["_law_state", "_law_things"]
theorem sc__law_mix : FnScope N__law_mix P__law_mix (defScope s__law_mix) := ⟨rfl, rfl, rfl, by decide +kernel, rfl, by decide +kernel, by decide +kernel⟩
abbrev s__law_some : Stmt := top 38
abbrev N__law_some : List Str := ["_law_state", "_law_things", "_law_thing"]
abbrev P__law_some : List Str := ["_law_state", "_law_things"]
theorem sc__law_some : FnScope N__law_some P__law_some (defScope s__law_some) := ⟨rfl, rfl, rfl, by decide +kernel, rfl, by decide +kernel, by decide +kernel⟩
abbrev s__law_same : Stmt := top 39
abbrev N__law_same : List Str := ["_law_found", "_law_due", "_law_x", "_law_y"]
abbrev P__law_same : List Str := ["_law_found", "_law_due"]
theorem sc__law_same : FnScope N__law_same P__law_same (defScope s__law_same) := ⟨rfl, rfl, rfl, by decide +kernel, rfl, by decide +kernel, by decide +kernel⟩
abbrev s__law_names : Stmt := top 40
abbrev N__law_names : List Str := ["_law_state", "_law_many", "_law_some_here"]
abbrev P__law_names : List Str := ["_law_state", "_law_many"]
theorem sc__law_names : FnScope N__law_names P__law_names (defScope s__law_names) := ⟨rfl, rfl, rfl, by decide +kernel, rfl, by decide +kernel, by decide +kernel⟩
abbrev s__law_together : Stmt := top 41
abbrev N__law_together : List Str := ["_law_names_here", "_law_most", "_law_found", "_law_k", "_law_j"]
abbrev P__law_together : List Str := ["_law_names_here", "_law_most"]
theorem sc__law_together : FnScope N__law_together P__law_together (defScope s__law_together) := ⟨rfl, rfl, rfl, by decide +kernel, rfl, by decide +kernel, by decide +kernel⟩
abbrev s_law : Stmt := top 42
abbrev N_law : List Str := ["_law_script", "_law_state", "_law_turn", "_law_names_here", "_law_most", "_law_row", "_law_name", "_law_rest", "_law_due", "_law_again", "_law_given", "_law_left", "_law_found", "_law_wishes", "_law_x"]
abbrev P_law : List Str := ["_law_script"]
theorem sc_law : FnScope N_law P_law (defScope s_law) := ⟨rfl, rfl, rfl, by decide +kernel, rfl, by decide +kernel, by decide +kernel⟩
structure Ad where
  a_is_integer : Addr
  d_is_integer : FuncData
  a_is_list : Addr
  d_is_list : FuncData
  a_is_name : Addr
  d_is_name : FuncData
  a_is_dish : Addr
  d_is_dish : FuncData
  a_is_bounds : Addr
  d_is_bounds : FuncData
  a_is_moment : Addr
  d_is_moment : FuncData
  a_is_wish : Addr
  d_is_wish : FuncData
  a_as_moment : Addr
  d_as_moment : FuncData
  a_as_wish : Addr
  d_as_wish : FuncData
  a_Meal___init__ : Addr
  d_Meal___init__ : FuncData
  a_Meal_wishes : Addr
  d_Meal_wishes : FuncData
  a_check_dishes : Addr
  d_check_dishes : FuncData
  a_check_wishes : Addr
  d_check_wishes : FuncData
  a_check_stations : Addr
  d_check_stations : FuncData
  a_together : Addr
  d_together : FuncData
  a_keeping : Addr
  d_keeping : FuncData
  a_ready_by : Addr
  d_ready_by : FuncData
  a_behind : Addr
  d_behind : FuncData
  a__law_fresh : Addr
  d__law_fresh : FuncData
  a__law_take : Addr
  d__law_take : FuncData
  a__law_one : Addr
  d__law_one : FuncData
  a__law_mix : Addr
  d__law_mix : FuncData
  a__law_some : Addr
  d__law_some : FuncData
  a__law_same : Addr
  d__law_same : FuncData
  a__law_names : Addr
  d__law_names : FuncData
  a__law_together : Addr
  d__law_together : FuncData
  a_law : Addr
  d_law : FuncData
  a_Meal : Addr
  a_EDGES : Addr
  a_W0 : Addr
  a_S0 : Addr
structure Txt (K : PySem.W.Frag) (mg : Str → Option Value) (A : Ad) : Prop where
  f_is_integer : Fun K "is_integer" "is_integer" s_is_integer A.a_is_integer A.d_is_integer
  g_is_integer : mg "is_integer" = some (.ref A.a_is_integer)
  b_is_integer : Binds K A.d_is_integer P_is_integer []
  f_is_list : Fun K "is_list" "is_list" s_is_list A.a_is_list A.d_is_list
  g_is_list : mg "is_list" = some (.ref A.a_is_list)
  b_is_list : Binds K A.d_is_list P_is_list []
  f_is_name : Fun K "is_name" "is_name" s_is_name A.a_is_name A.d_is_name
  g_is_name : mg "is_name" = some (.ref A.a_is_name)
  b_is_name : Binds K A.d_is_name P_is_name []
  f_is_dish : Fun K "is_dish" "is_dish" s_is_dish A.a_is_dish A.d_is_dish
  g_is_dish : mg "is_dish" = some (.ref A.a_is_dish)
  b_is_dish : Binds K A.d_is_dish P_is_dish []
  f_is_bounds : Fun K "is_bounds" "is_bounds" s_is_bounds A.a_is_bounds A.d_is_bounds
  g_is_bounds : mg "is_bounds" = some (.ref A.a_is_bounds)
  b_is_bounds : Binds K A.d_is_bounds P_is_bounds []
  f_is_moment : Fun K "is_moment" "is_moment" s_is_moment A.a_is_moment A.d_is_moment
  g_is_moment : mg "is_moment" = some (.ref A.a_is_moment)
  b_is_moment : Binds K A.d_is_moment P_is_moment []
  f_is_wish : Fun K "is_wish" "is_wish" s_is_wish A.a_is_wish A.d_is_wish
  g_is_wish : mg "is_wish" = some (.ref A.a_is_wish)
  b_is_wish : Binds K A.d_is_wish P_is_wish []
  f_as_moment : Fun K "as_moment" "as_moment" s_as_moment A.a_as_moment A.d_as_moment
  g_as_moment : mg "as_moment" = some (.ref A.a_as_moment)
  b_as_moment : Binds K A.d_as_moment P_as_moment []
  f_as_wish : Fun K "as_wish" "as_wish" s_as_wish A.a_as_wish A.d_as_wish
  g_as_wish : mg "as_wish" = some (.ref A.a_as_wish)
  b_as_wish : Binds K A.d_as_wish P_as_wish []
  f_Meal___init__ : FunD K "__init__" "Meal.__init__" (defArgs s_Meal___init__) (defBody s_Meal___init__) (defScope s_Meal___init__) [.ref A.a_W0, .ref A.a_S0] [] A.a_Meal___init__ A.d_Meal___init__
  f_Meal_wishes : Fun K "wishes" "Meal.wishes" s_Meal_wishes A.a_Meal_wishes A.d_Meal_wishes
  b_Meal_wishes : Binds K A.d_Meal_wishes P_Meal_wishes []
  f_check_dishes : Fun K "check_dishes" "check_dishes" s_check_dishes A.a_check_dishes A.d_check_dishes
  g_check_dishes : mg "check_dishes" = some (.ref A.a_check_dishes)
  b_check_dishes : Binds K A.d_check_dishes P_check_dishes []
  f_check_wishes : Fun K "check_wishes" "check_wishes" s_check_wishes A.a_check_wishes A.d_check_wishes
  g_check_wishes : mg "check_wishes" = some (.ref A.a_check_wishes)
  b_check_wishes : Binds K A.d_check_wishes P_check_wishes []
  f_check_stations : Fun K "check_stations" "check_stations" s_check_stations A.a_check_stations A.d_check_stations
  g_check_stations : mg "check_stations" = some (.ref A.a_check_stations)
  b_check_stations : Binds K A.d_check_stations P_check_stations []
  f_together : Fun K "together" "together" s_together A.a_together A.d_together
  g_together : mg "together" = some (.ref A.a_together)
  b_together : Binds K A.d_together P_together []
  f_keeping : Fun K "keeping" "keeping" s_keeping A.a_keeping A.d_keeping
  g_keeping : mg "keeping" = some (.ref A.a_keeping)
  b_keeping : Binds K A.d_keeping P_keeping []
  f_ready_by : Fun K "ready_by" "ready_by" s_ready_by A.a_ready_by A.d_ready_by
  g_ready_by : mg "ready_by" = some (.ref A.a_ready_by)
  b_ready_by : Binds K A.d_ready_by P_ready_by []
  f_behind : Fun K "behind" "behind" s_behind A.a_behind A.d_behind
  g_behind : mg "behind" = some (.ref A.a_behind)
  b_behind : Binds K A.d_behind P_behind []
  f__law_fresh : Fun K "_law_fresh" "_law_fresh" s__law_fresh A.a__law_fresh A.d__law_fresh
  g__law_fresh : mg "_law_fresh" = some (.ref A.a__law_fresh)
  b__law_fresh : Binds K A.d__law_fresh P__law_fresh []
  f__law_take : Fun K "_law_take" "_law_take" s__law_take A.a__law_take A.d__law_take
  g__law_take : mg "_law_take" = some (.ref A.a__law_take)
  b__law_take : Binds K A.d__law_take P__law_take []
  f__law_one : Fun K "_law_one" "_law_one" s__law_one A.a__law_one A.d__law_one
  g__law_one : mg "_law_one" = some (.ref A.a__law_one)
  b__law_one : Binds K A.d__law_one P__law_one []
  f__law_mix : Fun K "_law_mix" "_law_mix" s__law_mix A.a__law_mix A.d__law_mix
  g__law_mix : mg "_law_mix" = some (.ref A.a__law_mix)
  b__law_mix : Binds K A.d__law_mix P__law_mix []
  f__law_some : Fun K "_law_some" "_law_some" s__law_some A.a__law_some A.d__law_some
  g__law_some : mg "_law_some" = some (.ref A.a__law_some)
  b__law_some : Binds K A.d__law_some P__law_some []
  f__law_same : Fun K "_law_same" "_law_same" s__law_same A.a__law_same A.d__law_same
  g__law_same : mg "_law_same" = some (.ref A.a__law_same)
  b__law_same : Binds K A.d__law_same P__law_same []
  f__law_names : Fun K "_law_names" "_law_names" s__law_names A.a__law_names A.d__law_names
  g__law_names : mg "_law_names" = some (.ref A.a__law_names)
  b__law_names : Binds K A.d__law_names P__law_names []
  f__law_together : Fun K "_law_together" "_law_together" s__law_together A.a__law_together A.d__law_together
  g__law_together : mg "_law_together" = some (.ref A.a__law_together)
  b__law_together : Binds K A.d__law_together P__law_together []
  f_law : Fun K "law" "law" s_law A.a_law A.d_law
  g_law : mg "law" = some (.ref A.a_law)
  b_law : Binds K A.d_law P_law []
  g_CLOCK : ∃ t, mg "CLOCK" = some (.str "clock" t)
  g_LETTERS : ∃ t, mg "LETTERS" = some (.str "abcdefghijklmnopqrstuvwxyz" t)
  g_LONGEST_NAME : ∃ t, mg "LONGEST_NAME" = some (.int 8 t)
  len : mg "len" = none
  abs : mg "abs" = none
  int : mg "int" = none
  list : mg "list" = none
  tuple : mg "tuple" = none
  bool : mg "bool" = none
  str : mg "str" = none
  dict : mg "dict" = none
  isinstance : mg "isinstance" = none
  all : mg "all" = none
  zip : mg "zip" = none
  enumerate : mg "enumerate" = none
  range : mg "range" = none
  sorted : mg "sorted" = none
  g_EDGES : mg "EDGES" = some (.ref A.a_EDGES)
  t_EDGES : SqT K (fun _ => none) A.a_EDGES [.str "start", .str "done"]
  cl : Cls K A.a_Meal
  nB : NoAttr K A.a_Meal "bounds"
  nW : NoAttr K A.a_Meal "wished"
  nP : NoAttr K A.a_Meal "places"
  g_Meal : mg "Meal" = some (.ref A.a_Meal)
  mkM : Mk K A.a_Meal A.a_Meal___init__
  m_wishes : Meth K A.a_Meal "wishes" A.a_Meal_wishes
  e0 : SqT K (fun _ => none) A.a_S0 []
  b_Meal___init__ : ∃ ds, Vals [.ref A.a_S0] ds ∧ Binds K A.d_Meal___init__ P_Meal___init__ ds

/-! ### the state of draws -/
def er (H : Hp) (st : Addr) : Hp := fun b => if b = st then none else H b
theorem er_ne {H : Hp} {st b : Addr} (h : b ≠ st) : er H st b = H b := if_neg h
theorem er_some {H : Hp} {st b : Addr} {o : HO} (h : er H st b = some o) : b ≠ st ∧ H b = some o := by
  by_cases e : b = st
  · rw [e] at h
    rw [show er H st st = none from if_pos rfl] at h
    cases h
  · exact ⟨e, (er_ne e).symm.trans h⟩
theorem er_same (H : Hp) (st : Addr) : Same (er H st) H := fun _ _ h => (er_some h).2
theorem er_upd (H : Hp) (st : Addr) (o : HO) : er (upd H st o) st = er H st := by
  funext b
  by_cases e : b = st
  · rw [e]; exact (if_pos rfl).trans (if_pos rfl).symm
  · rw [er_ne e, er_ne e, upd_ne e]
theorem er_of {H : Hp} {st b : Addr} {o : HO} (h : b ≠ st) (e : H b = some o) : er H st b = some o := (er_ne h).trans e
theorem er_mono {H H' : Hp} {st : Addr} (s : Same H H') : Same (er H st) (er H' st) := fun b o h =>
  er_of (er_some h).1 (s _ _ (er_some h).2)
def five (c : Addr) (i l m n : Int) : HO := .lst [.ref c, .int i, .int l, .int m, .int n]
structure Sta (H : Hp) (st c : Addr) (b : Int) : Prop where
  ex : ∃ (cs : List Int) (i : Nat) (l m n : Int), H st = some (five c (i : Int) l m n) ∧ er H st c = some (.lst (cs.map V.int)) ∧ i ≤ cs.length ∧ 0 ≤ l ∧ 0 ≤ m ∧ m < 2147483647 ∧ 0 ≤ n ∧ n ≤ b ∧ b ≤ 1000000
theorem Sta.same {H H' : Hp} {st c : Addr} {b : Int} (h : Sta H st c b) (s : Same H H') : Sta H' st c b := by
  obtain ⟨cs, i, l, m, n, h1, h2, h3⟩ := h.ex
  exact ⟨cs, i, l, m, n, s _ _ h1, er_mono s _ _ h2, h3⟩
theorem Sta.le {H : Hp} {st c : Addr} {b b' : Int} (h : Sta H st c b) (hb : b ≤ b') (h9 : b' ≤ 1000000) : Sta H st c b' := by
  obtain ⟨cs, i, l, m, n, h1, h2, h3, h4, h5, h6, h7, h8, _⟩ := h.ex
  exact ⟨cs, i, l, m, n, h1, h2, h3, h4, h5, h6, h7, by omega, h9⟩
theorem Sta.ne {H : Hp} {st c p : Addr} {b : Int} (h : Sta H st c b) (hp : H p = none) : p ≠ st := by
  obtain ⟨cs, i, l, m, n, h1, _⟩ := h.ex
  exact fun e => by rw [e, h1] at hp; cases hp
theorem Sta.nec {H : Hp} {st c p : Addr} {b : Int} (h : Sta H st c b) (hp : er H st p = none) : c ≠ p := by
  obtain ⟨cs, i, l, m, n, _, h1, _⟩ := h.ex
  exact ne_of_none h1 hp
theorem Same.new {H : Hp} {p : Addr} {o : HO} (hp : H p = none) : Same H (upd H p o) := fun b u e => by
  rw [upd_ne (ne_of_none e hp)]; exact e
theorem sqUp {K : PySem.W.Frag} {H H' : Hp} {a : Addr} {xs : List V} (h : SqL K H a xs) (s : Same H H') : SqL K H' a xs := s.seq h
theorem sqEr {K : PySem.W.Frag} {H : Hp} {st a : Addr} {xs : List V} (h : SqL K (er H st) a xs) : SqL K H a xs := (er_same H st).seq h
theorem er_updp {H : Hp} {st p : Addr} {o : HO} (hp : p ≠ st) : er (upd H p o) st = upd (er H st) p o := by
  funext b
  by_cases e : b = st
  · rw [e, upd_ne (fun z => hp z.symm)]; exact (if_pos rfl).trans (if_pos rfl).symm
  · by_cases e2 : b = p
    · rw [e2, upd_same, er_ne hp, upd_same]
    · rw [upd_ne e2, er_ne e, er_ne e, upd_ne e2]
theorem er_none {H : Hp} {st p : Addr} (h : H p = none) : er H st p = none := by
  by_cases e : p = st
  · exact if_pos e
  · exact (er_ne e).trans h
/-- what a helper that draws leaves: the state, and all that stood beside it -/
structure Gs (st c : Addr) (H H' : Hp) (b : Int) : Prop where
  sta : Sta H' st c b
  same : Same (er H st) (er H' st)
theorem Gs.trans {st c : Addr} {H H1 H2 : Hp} {b b' : Int} (g : Gs st c H H1 b) (g' : Gs st c H1 H2 b') : Gs st c H H2 b' := ⟨g'.sta, g.same.trans g'.same⟩
theorem Gs.refl {st c : Addr} {H : Hp} {b : Int} (h : Sta H st c b) : Gs st c H H b := ⟨h, Same.refl _⟩
theorem Gs.of_upd {st c : Addr} {H : Hp} {o : HO} {b : Int} (h : Sta (upd H st o) st c b) : Gs st c H (upd H st o) b := ⟨h, by rw [er_upd]; exact Same.refl _⟩
theorem Gs.of_same {st c : Addr} {H H' : Hp} {b : Int} (h : Sta H st c b) (s : Same H H') : Gs st c H H' b := ⟨h.same s, er_mono s⟩
theorem Gs.le {st c : Addr} {H H' : Hp} {b b' : Int} (g : Gs st c H H' b) (hb : b ≤ b') (h9 : b' ≤ 1000000) : Gs st c H H' b' := ⟨g.sta.le hb h9, g.same⟩
/-- a thing of the helper's own changes -/
theorem Gs.set {st c p : Addr} {H H' : Hp} {b : Int} {o : HO} (g : Gs st c H H' b) (hc : er H st c ≠ none) (hp : er H st p = none) (hs : p ≠ st) : Gs st c H (upd H' p o) b := by
  refine ⟨?_, fun b u e => ?_⟩
  · obtain ⟨cs, i, l, m, n, h1, h2, h3⟩ := g.sta.ex
    refine ⟨cs, i, l, m, n, by rw [upd_ne (fun z => hs z.symm)]; exact h1, ?_, h3⟩
    rw [er_updp hs, upd_ne (fun z => hc (by rw [z]; exact hp))]
    exact h2
  · rw [er_updp hs, upd_ne (ne_of_none e hp)]
    exact g.same _ _ e
theorem Gs.new {st c p : Addr} {H H' : Hp} {b : Int} {o : HO} (g : Gs st c H H' b) (hp : H' p = none) : Gs st c H (upd H' p o) b :=
  g.trans (Gs.of_same g.sta (Same.new hp))
theorem Sta.hc {H : Hp} {st c : Addr} {b : Int} (h : Sta H st c b) : er H st c ≠ none := by
  obtain ⟨cs, i, l, m, n, _, h1, _⟩ := h.ex
  rw [h1]
  exact fun z => by cases z

theorem while_ex {c : TT} {tb : TS} {D : Ends} {σ : St} {H : Hp} (W : Nat → St → Hp → Prop) (Ex : St → Hp → Prop) {m : Nat} (h0 : W m σ H)
    (hs : ∀ nx : St → Hp → Prop, (∀ σ H, Ex σ H → nx σ H) → ∀ m σ H, W m σ H → c σ H fun b H1 => if b = true then ∃ N : St → Hp → Prop, (∀ σ' H', N σ' H' → ∃ m', m' < m ∧ W m' σ' H') ∧ tb { D with nx := N, ct := N, bk := nx } σ H1 else nx σ H1)
    (hd : ∀ σ H, Ex σ H → D.nx σ H) : tWhile c tb D σ H := ⟨W, ⟨m, h0⟩, hs D.nx hd⟩
theorem cast_heap {F : Hp → Prop} {a b : Hp} (e : a = b) (h : F b) : F a := e ▸ h

def spTake : Sp := fun vs H Q _ => ∃ (st c : Addr) (many b : Int), vs = [.ref st, .int many] ∧ Sta H st c b ∧ b + 1 ≤ 1000000 ∧ 0 < many ∧ many < 1073741824 ∧
  ∀ (r : Int) (o : HO), 0 ≤ r → r < many → Sta (upd H st o) st c (b + 1) → Q (.int r) (upd H st o)

local macro_rules | `(tactic| walk_at "rd1") => `(tactic| first
  | refine ⟨_, _, rfl, rfl, ?_⟩
  | refine ⟨_, _, _, _, rfl, rfl, SqL.of (by assumption), rfl, ?_⟩
  | refine ⟨_, _, _, _, rfl, rfl, (by assumption), rfl, ?_⟩
  | refine .inl ⟨_, rfl, ?_⟩
  | refine ⟨_, rfl, ?_⟩
  | refine ⟨(by unfold CMul; omega), ?_⟩
  | refine ⟨(by unfold CPow; omega), ?_⟩
  | refine ⟨(by (try dsimp only); omega), ?_⟩
  | refine ⟨(by unfold CDiv; omega), ?_⟩
  | fail "rd1")
local macro_rules | `(tactic| walk_at "rd") => `(tactic| repeat' (walk_at "rd1"))
def spFresh (K : PySem.W.Frag) : Sp := fun vs H Q _ => ∃ (a : Addr) (ns : List Int), vs = [.ref a] ∧ SqL K H a (ns.map V.int) ∧
  ∀ (st c : Addr) (H' : Hp), Same H (er H' st) → Sta H' st c 0 → Q (.ref st) H'
def spOne (K : PySem.W.Frag) : Sp := fun vs H Q _ => ∃ (st c t : Addr) (xs : List V) (b : Int), vs = [.ref st, .ref t] ∧ Sta H st c b ∧ b + 1 ≤ 1000000 ∧ SqL K (er H st) t xs ∧ 0 < xs.length ∧ xs.length < 1073741824 ∧
  ∀ (i : Nat) (v : V) (H' : Hp), xs[i]? = some v → Gs st c H H' (b + 1) → Q v H'
def spMix (K : PySem.W.Frag) : Sp := fun vs H Q _ => ∃ (st c t : Addr) (ss : List Str) (b : Int), vs = [.ref st, .ref t] ∧ Sta H st c b ∧ b + 64 ≤ 1000000 ∧ SqL K (er H st) t (ss.map V.str) ∧ ss.length ≤ 64 ∧ (∀ s ∈ ss, PyData.strOk s = true) ∧
  ∀ (p : Addr) (ys : List Str) (H' : Hp), ys.Perm ss → Gs st c H H' (b + 64) → er H' st p = some (.lst (ys.map V.str)) → er H st p = none → Q (.ref p) H'
def spSome (K : PySem.W.Frag) : Sp := fun vs H Q _ => ∃ (st c t : Addr) (ss : List Str) (b : Int), vs = [.ref st, .ref t] ∧ Sta H st c b ∧ b + 64 ≤ 1000000 ∧ SqL K (er H st) t (ss.map V.str) ∧ ss.length ≤ 64 ∧
  ∀ (p : Addr) (ys : List Str) (H' : Hp), ys.Sublist ss → Gs st c H H' (b + 64) → er H' st p = some (.lst (ys.map V.str)) → er H st p = none → Q (.ref p) H'
section
variable {P : Program} {w : World} {K : PySem.W.Frag} {mg : Str → Option Value} {base : Heap} {A : Ad}
theorem ok_take (T : Txt K mg A) : FnOk P w K mg base CX0 1 A.a__law_take A.d__law_take P__law_take spTake := by
  refine T.f__law_take.ok sc__law_take (fun vs H Q E h => ?_) (fun cdv A' outer s H vs Q E hr h => ?_)
  · obtain ⟨st, c, many, b, rfl, _⟩ := h
    rfl
  · obtain ⟨st, c, many, b, rfl, S, hb1, hm0, hm1, k⟩ := h
    obtain ⟨cs, i, l, m, n, h1, h2, h3, h4, h5, h6, h7, h8, h9⟩ := S.ex
    refine ⟨_, (pss_cons (ps_asg (pe_op op_add (pe_ix ix_list (pv 0) pe_int (fun _ _ => rfl)) pe_int) (pg_sub (pv 0) pe_int set_list))
 (pss_cons (ps_while PassesOwn.never (PW.pt (pw_and (pt_cmpR op_eq (pe_ix ix_list (pv 0) pe_int (fun _ _ => rfl)) pe_int (nomark _)) (pw_and1 (pt_cmpR op_lt (pe_ix ix_list (pv 0) pe_int (fun _ _ => rfl)) (pe_callB call_len_seq (by rfl) T.len PySem.boot_len (pa_cons (pe_ix ix_list (pv 0) pe_int (fun _ _ => rfl)) pa_nil)) (nomark _)))))
 (pss_cons (ps_set (i := 2) sc__law_take.nd rfl (Or.inl rfl) (pe_callB call_abs (by rfl) T.abs (by decide +kernel) (pa_cons (pe_ix ix_list (pe_ix ix_list (pv 0) pe_int (fun _ _ => rfl)) (pe_ix ix_list (pv 0) pe_int (fun _ _ => rfl)) (fun _ _ => rfl)) pa_nil)))
 (pss_cons (ps_asg (pe_op op_add (pe_ix ix_list (pv 0) pe_int (fun _ _ => rfl)) pe_int) (pg_sub (pv 0) pe_int set_list))
 (pss_one (ps_if (pt_cmpR op_ge (pv 2) (pe_op op_pow pe_int pe_int) (nomark _))
 (pss_one (ps_asg (pv 2) (pg_sub (pv 0) pe_int set_list)))
 (pss_one (ps_asg (pe_op op_mod (pe_callTy call_int1 (by rfl) T.int (by decide +kernel) (pa_cons (pe_op op_add (pe_op op_add (pe_op op_mul (pe_ix ix_list (pv 0) pe_int (fun _ _ => rfl)) pe_int) (pv 2)) pe_int) pa_nil)) pe_int) (pg_sub (pv 0) pe_int set_list))))))))
 (pss_cons (ps_if (pt_cmpR op_gt (pe_ix ix_list (pv 0) pe_int (fun _ _ => rfl)) pe_int (nomark _))
 (pss_cons (ps_set (i := 3) sc__law_take.nd rfl (Or.inl rfl) (pe_op op_mod (pe_callTy call_int1 (by rfl) T.int (by decide +kernel) (pa_cons (pe_ix ix_list (pv 0) pe_int (fun _ _ => rfl)) pa_nil)) (pv 1)))
 (pss_cons (ps_asg (pe_op op_fdiv (pe_ix ix_list (pv 0) pe_int (fun _ _ => rfl)) (pv 1)) (pg_sub (pv 0) pe_int set_list))
 (pss_one (ps_ret (pv 3)))))
 pss_nil)
 (pss_cons (ps_set (i := 4) sc__law_take.nd rfl (Or.inl rfl) (pe_op op_mod (pe_callTy call_int1 (by rfl) T.int (by decide +kernel) (pa_cons (pe_op op_pow (pe_op op_add (pe_op op_add (pe_ix ix_list (pv 0) pe_int (fun _ _ => rfl)) (pe_op op_mul pe_int (pe_ix ix_list (pv 0) pe_int (fun _ _ => rfl)))) pe_int) pe_int) pa_nil)) pe_int))
 (pss_cons (ps_set (i := 4) sc__law_take.nd rfl (Or.inl rfl) (pe_op op_mod (pe_callTy call_int1 (by rfl) T.int (by decide +kernel) (pa_cons (pe_op op_pow (pe_op op_add (pv 4) (pe_op op_mul pe_int (pe_ix ix_list (pv 0) pe_int (fun _ _ => rfl)))) pe_int) pa_nil)) pe_int))
 (pss_one (ps_ret (pe_op op_mod (pe_callTy call_int1 (by rfl) T.int (by decide +kernel) (pa_cons (pe_op op_fdiv (pv 4) pe_int) pa_nil)) (pv 1))))))))), ?_⟩
    -- state[4] = state[4] + 1
    refine ⟨_, rfl, _, _, _, _, rfl, rfl, SqL.of h1, rfl, _, _, rfl, rfl, _, rfl, _, _, _, _, rfl, rfl, h1, rfl, ?_⟩
    refine while_ex (fun mm σ' H' => ∃ (i : Nat) (l m : Int) (v : Option V), σ' = [some (.ref st), some (.int many), v, none, none] ∧ H' = upd H st (five c (i : Int) l m (n + 1)) ∧ i ≤ cs.length ∧ 0 ≤ l ∧ 0 ≤ m ∧ m < 2147483647 ∧ mm = cs.length - i)
      (fun σ' H' => ∃ (i : Nat) (l m : Int) (v : Option V), σ' = [some (.ref st), some (.int many), v, none, none] ∧ H' = upd H st (five c (i : Int) l m (n + 1)) ∧ i ≤ cs.length ∧ 0 ≤ l ∧ 0 ≤ m ∧ m < 2147483647)
      ⟨i, l, m, none, rfl, rfl, h3, h4, h5, h6, rfl⟩ (fun nx hnx => ?_) ?_
    rintro mm σ' H' ⟨i, l, m, v, rfl, rfl, h3, h4, h5, h6, rfl⟩
    have hu : upd H st (five c (i : Int) l m (n + 1)) st = some (five c (i : Int) l m (n + 1)) := upd_same
    have hc : SqL K (upd H st (five c (i : Int) l m (n + 1))) c (cs.map V.int) := SqL.of ((er_same _ st) _ _ (by rw [er_upd]; exact h2))
    -- the test
    refine ⟨_, rfl, _, _, _, _, rfl, rfl, SqL.of hu, rfl, rfl, _, rfl, ?_⟩
    refine ite2 (fun hl => ?_) (fun hl => ?_)
    · have el : l = 0 := by
        have q := of_decide_eq_true hl
        cases q
        rfl
      subst el
      refine ⟨_, rfl, _, _, _, _, rfl, rfl, SqL.of hu, rfl, _, rfl, _, _, _, _, rfl, rfl, SqL.of hu, rfl, _, _, rfl, .inl hc, _, _, rfl, rfl, _, rfl, ?_⟩
      refine ite2 (fun hi => ?_) (fun hi => ?_)
      · have hi' : i < cs.length := by
          have q := of_decide_eq_true hi
          rw [List.length_map] at q
          omega
        refine ⟨_, fun _ _ z => z, ?_⟩
        -- cell = abs(state[0][state[1]]); state[1] = state[1] + 1
        refine ⟨_, rfl, _, _, _, _, rfl, rfl, SqL.of hu, rfl, _, rfl, _, _, _, _, rfl, rfl, SqL.of hu, rfl, _, _, _, _, rfl, rfl, hc, atI_nat (by rw [List.getElem?_map, List.getElem?_eq_getElem hi']; rfl), _, rfl, ?_⟩
        refine ⟨_, rfl, _, _, _, _, rfl, rfl, SqL.of hu, rfl, _, _, rfl, rfl, _, rfl, _, _, _, _, rfl, rfl, hu, rfl, ?_⟩
        have e2 : upd (upd H st (five c (i : Int) 0 m (n + 1))) st (five c ((i : Int) + 1) 0 m (n + 1)) = upd H st (five c (((i + 1 : Nat)) : Int) 0 m (n + 1)) := upd_upd
        refine cast_heap e2 ?_
        have hu2 : upd H st (five c (((i + 1 : Nat)) : Int) 0 m (n + 1)) st = some (five c (((i + 1 : Nat)) : Int) 0 m (n + 1)) := upd_same
        generalize hcell : (if cs[i] < 0 then -cs[i] else cs[i]) = cell
        have hc0 : 0 ≤ cell := by
          rw [← hcell]
          split <;> omega
        -- if cell >= 10 ** 18
        refine ⟨_, rfl, _, _, rfl, rfl, ⟨by decide, by decide, by decide⟩, _, _, rfl, rfl, _, rfl, ?_⟩
        refine ite2 (fun hg => ?_) (fun hg => ?_)
        · refine ⟨_, rfl, _, rfl, _, _, _, _, rfl, rfl, hu2, rfl, ?_⟩
          exact ⟨cs.length - (i + 1), by omega, i + 1, cell, m, _, rfl, upd_upd, hi', hc0, h5, h6, rfl⟩
        · have hlt : cell < 10 ^ 18 := by
            refine Int.not_le.mp fun q => hg (decide_eq_true ?_)
            exact q
          refine ⟨_, rfl, _, _, _, _, rfl, rfl, SqL.of hu2, rfl, _, _, rfl, rfl, .inl ⟨by omega, by omega⟩, _, rfl, _, _, rfl, rfl, _, _, rfl, rfl, .inl ⟨_, rfl, _, _, rfl, rfl, (by show (0 : Int) < 2147483647; decide), _, rfl, _, _, _, _, rfl, rfl, hu2, rfl, ?_⟩⟩
          refine ⟨cs.length - (i + 1), by omega, i + 1, 0, (m * 131 + cell + 1) % 2147483647, _, rfl, upd_upd, hi', Int.le_refl _, Int.emod_nonneg _ (by decide), Int.emod_lt_of_pos _ (by decide), rfl⟩
      · exact hnx _ _ ⟨i, 0, m, v, rfl, rfl, h3, h4, h5, h6⟩
    · exact hnx _ _ ⟨i, l, m, v, rfl, rfl, h3, h4, h5, h6⟩
    -- behind the loop
    rintro σ' H' ⟨i, l, m, v, rfl, rfl, h3, h4, h5, h6⟩
    have hu : upd H st (five c (i : Int) l m (n + 1)) st = some (five c (i : Int) l m (n + 1)) := upd_same
    have mk : ∀ (i : Nat) (l m : Int), i ≤ cs.length → 0 ≤ l → 0 ≤ m → m < 2147483647 → Sta (upd H st (five c (i : Int) l m (n + 1))) st c (b + 1) := fun i l m h3 h4 h5 h6 =>
      ⟨cs, i, l, m, n + 1, upd_same, by rw [er_upd]; exact h2, h3, h4, h5, h6, by omega, by omega, hb1⟩
    refine ⟨_, rfl, _, _, _, _, rfl, rfl, SqL.of hu, rfl, _, _, rfl, rfl, _, rfl, ?_⟩
    refine ite2 (fun hl => ?_) (fun hl => ?_)
    · refine ⟨_, rfl, _, _, _, _, rfl, rfl, SqL.of hu, rfl, .inl ⟨_, rfl, _, rfl, _, _, rfl, rfl, hm0, ?_⟩⟩
      refine ⟨_, rfl, _, _, _, _, rfl, rfl, SqL.of hu, rfl, _, rfl, _, _, rfl, rfl, ⟨hm0, by omega⟩, _, rfl, _, _, _, _, rfl, rfl, hu, rfl, ?_⟩
      refine cast_heap (b := upd H st (five c (i : Int) (l / many) m (n + 1))) upd_upd ?_
      refine ⟨_, rfl, ?_⟩
      exact k _ _ (Int.emod_nonneg _ (by omega)) (Int.emod_lt_of_pos _ hm0) (mk i (l / many) m h3 (Int.ediv_nonneg h4 (by omega)) h5 h6)
    · have hp : ∀ x : Int, 0 ≤ x → x < 10000000000 → (0 : Int) ≤ 3 ∧ (3 : Int) ≤ 1000000 ∧ x.natAbs < 2 ^ 64 := fun x a b => ⟨by omega, by omega, by omega⟩
      walk_at "rd"
      exact k _ _ (Int.emod_nonneg _ (by omega)) (Int.emod_lt_of_pos _ hm0) (mk i l m h3 h4 h5 h6)
theorem ok_fresh (T : Txt K mg A) : FnOk P w K mg base CX0 1 A.a__law_fresh A.d__law_fresh P__law_fresh (spFresh K) := by
  refine T.f__law_fresh.ok sc__law_fresh (fun vs H Q E h => ?_) (fun cdv A' outer s H vs Q E hr h => ?_)
  · obtain ⟨a, ns, rfl, _⟩ := h
    rfl
  · obtain ⟨a, ns, rfl, hS, k⟩ := h
    refine ⟨_, (pss_one (ps_ret (pe_lst (pa_cons (pe_callTy call_list_of (by rfl) T.list (by decide +kernel) (pa_cons (pe_slice sl_list (pv 0) po_none (po_some pe_int)) pa_nil)) (pa_cons pe_int (pa_cons pe_int (pa_cons pe_int (pa_cons pe_int pa_nil)))))))), ?_⟩
    refine ⟨_, rfl, _, rfl, _, _, rfl, hS, fun p hp => ⟨_, _, rfl, .inl (SqL.of upd_same), fun c hc => ⟨by show 5 ≤ sizeLine; decide, fun st hst => ?_⟩⟩⟩
    have s1 : Same H (upd (upd H p (.lst (cutV (ns.map V.int) none (some 40)))) c (.lst (cutV (ns.map V.int) none (some 40)))) := (Same.new hp).trans (Same.new hc)
    have hst0 : H st = none := s1.free hst
    have ec : cutV (ns.map V.int) none (some 40) = (ns.take 40).map V.int := by
      unfold cutV
      rw [HT.sIx_none, show ((40 : Int)) = ((40 : Nat) : Int) from rfl, HT.sIx_nat]
      rw [List.drop_zero, Nat.sub_zero, List.map_take, List.length_map]
      by_cases h40 : 40 ≤ ns.length
      · rw [Nat.min_eq_left h40]
      · rw [Nat.min_eq_right (by omega), List.take_of_length_le (by simp), List.take_of_length_le (by simp; omega)]
    have hcs : c ≠ st := fun e => by rw [← e, upd_same] at hst; cases hst
    refine k st c _ (fun b o e => er_of (fun z => by rw [z, hst0] at e; cases e) (by rw [upd_ne (fun z => by rw [z, hst0] at e; cases e)]; exact s1 _ _ e)) ?_
    refine ⟨ns.take 40, 0, 0, 0, 0, upd_same, er_of hcs ?_, Nat.zero_le _, Int.le_refl _, Int.le_refl _, by decide, Int.le_refl _, Int.le_refl _, by decide⟩
    rw [upd_ne hcs, upd_same, ec]
theorem ok_one (T : Txt K mg A) : FnOk P w K mg base CX0 2 A.a__law_one A.d__law_one P__law_one (spOne K) := by
  have G__law_take : FnOk P w K mg base CX0 1 A.a__law_take A.d__law_take P__law_take spTake := ok_take T
  refine T.f__law_one.ok sc__law_one (fun vs H Q E h => ?_) (fun cdv A' outer s H vs Q E hr h => ?_)
  · obtain ⟨st, c, t, xs, b, rfl, _⟩ := h
    rfl
  · obtain ⟨st, c, t, xs, b, rfl, S, hb, hS, h0, h1, k⟩ := h
    refine ⟨_, (pss_one (ps_ret (pe_ix ix_list (pv 1) (pe_call G__law_take (hr.mono (by omega)) (by rfl) T.g__law_take T.f__law_take.kp T.b__law_take .nil pass0 (pa_cons (pv 0) (pa_cons (pe_callB call_len_seq (by rfl) T.len PySem.boot_len (pa_cons (pv 1) pa_nil)) pa_nil))) (fun _ _ => rfl)))), ?_⟩
    refine ⟨_, rfl, _, rfl, _, rfl, _, _, rfl, .inl (sqEr hS), st, c, _, b, rfl, S, hb, by omega, by omega, fun r o hr0 hr1 S' => ?_⟩
    have g := Gs.of_upd S'
    have hi : r.toNat < xs.length := by omega
    refine ⟨_, _, _, _, rfl, rfl, sqEr (sqUp hS g.same), at_of (j := r.toNat) (by omega) (List.getElem?_eq_getElem hi), ?_⟩
    exact k r.toNat _ _ (List.getElem?_eq_getElem hi) g
theorem stUp {H H' : Hp} {a : Addr} {xs : List V} (h : SqT K H a xs) (s : Same H H') : SqT K H' a xs := by
  rcases h with (h | ⟨o, h⟩) | h
  · exact .inl (.inl (s _ _ h))
  · exact .inl (.inr ⟨o, s _ _ h⟩)
  · exact .inr h
theorem map_erase {α β : Type} (g : α → β) :
    ∀ (l : List α) (j : Nat), (l.eraseIdx j).map g = (l.map g).eraseIdx j
  | [], _ => rfl
  | _ :: _, 0 => rfl
  | a :: l, j + 1 => congrArg (g a :: ·) (map_erase g l j)
theorem erase_perm {α : Type} : ∀ {ls : List α} {i : Nat} {y : α}, ls[i]? = some y → (y :: ls.eraseIdx i).Perm ls
  | a :: l, 0, y, h => by
    have e : a = y := Option.some.inj h
    rw [e]
    exact List.Perm.refl _
  | a :: l, i + 1, y, h => (List.Perm.swap a y (l.eraseIdx i)).trans ((erase_perm (ls := l) (i := i) (y := y) h).cons a)
  | [], i, y, h => by simp at h
theorem seqIx {r : Int} {n : Nat} (h0 : 0 ≤ r) (h1 : r < (n : Int)) : seqIndex? r n = some r.toNat := by
  unfold seqIndex?
  have e : ¬ r < 0 := by omega
  simp only [e, if_false]
  have : ((0 : Int) ≤ r && r < (n : Int)) = true := by simp [h0, h1]
  simp [h0, h1]
mutual
theorem dpSame {H H' : Hp} (s : Same H H') : ∀ {v : V} {d : PyData}, Dp K H v d → Dp K H' v d
  | _, _, .non => .non
  | _, _, .bl b => .bl b
  | _, _, .int i => .int i
  | _, _, .str x => .str x
  | _, _, .lst h q => .lst (s.seq h) (dpAllSame s q)
  | _, _, .tup h q => .tup (stUp h s) (dpAllSame s q)
theorem dpAllSame {H H' : Hp} (s : Same H H') : ∀ {vs : List V} {ds : List PyData}, DpAll K H vs ds → DpAll K H' vs ds
  | _, _, .nil => .nil
  | _, _, .cons a b => .cons (dpSame s a) (dpAllSame s b)
end
theorem dpStrs {H : Hp} : ∀ ss : List Str, DpAll K H (ss.map V.str) (ss.map PyData.str)
  | [] => .nil
  | s :: ss => .cons (.str s) (dpStrs ss)
theorem strs_lay : ∀ {ss : List Str}, (∀ s ∈ ss, PyData.strOk s = true) → PyData.canLayAll0 (ss.map PyData.str) = true
  | [], _ => by simp [PyData.canLayAll0]
  | s :: ss, h => by
    simp only [List.map_cons, PyData.canLayAll0, PyData.canLay0, h s (List.mem_cons_self ..), Bool.true_and]
    exact strs_lay fun t ht => h t (List.mem_cons_of_mem _ ht)
theorem strs_depth : ∀ ss : List Str, PyData.depthAll (ss.map PyData.str) = 0
  | [] => by simp [PyData.depthAll]
  | s :: ss => by simp only [List.map_cons, PyData.depthAll, PyData.depth, strs_depth ss]; rfl
theorem strs_shaped {ss : List Str} (h : ∀ s ∈ ss, PyData.strOk s = true) : SeqAt.shaped (.list (ss.map PyData.str)) = true := by
  show (PyData.canLay0 (.list (ss.map PyData.str)) && decide (PyData.depth (.list (ss.map PyData.str)) ≤ 64)) = true
  rw [Bool.and_eq_true]
  refine ⟨by simp only [PyData.canLay0]; exact strs_lay h, decide_eq_true ?_⟩
  simp only [PyData.depth, strs_depth]
  decide
theorem eqv_strs_nil : ∀ ss : List Str, PyData.eqv (.list (ss.map PyData.str)) (.list []) = ss.isEmpty
  | [] => by simp [PyData.eqv, PyData.eqvAll]
  | s :: ss => by simp [PyData.eqv, PyData.eqvAll]
theorem perm_move {α : Type} {fs ls : List α} {i : Nat} {y : α} (h : ls[i]? = some y) : (fs ++ [y] ++ ls.eraseIdx i).Perm (fs ++ ls) := by
  rw [List.append_assoc]
  exact List.Perm.append_left fs (erase_perm h)
theorem ok_mix (T : Txt K mg A) : FnOk P w K mg base CX0 2 A.a__law_mix A.d__law_mix P__law_mix (spMix K) := by
  have G__law_take : FnOk P w K mg base CX0 1 A.a__law_take A.d__law_take P__law_take spTake := ok_take T
  refine T.f__law_mix.ok sc__law_mix (fun vs H Q E h => ?_) (fun cdv A' outer s H vs Q E hr h => ?_)
  · obtain ⟨st, c, t, ss, b, rfl, _⟩ := h
    rfl
  · obtain ⟨st, c, t, ss, b, rfl, S, hb, hS, hl, hok, k⟩ := h
    refine ⟨_, (pss_cons (ps_par (i := 2) (j := 3) (by rfl) sc__law_mix.nd rfl rfl (by decide) rfl rfl (pa_cons (pe_callTy call_list_of (by rfl) T.list (by decide +kernel) (pa_cons (pv 1) pa_nil)) (pa_cons (pe_lst pa_nil) pa_nil)) (by rfl))
 (pss_cons (ps_while PassesOwn.never (pt_cmpR (op_neD hr.units) (pv 2) (pe_lst pa_nil) (nomark _))
 (pss_one (ps_expr (pe_bm PySem.F.plainAttrs_list PySem.F.slot_list_append PySem.F.type_list_append mt_append (pv 3) (pa_cons (pe_bm PySem.F.plainAttrs_list PySem.F.slot_list_pop PySem.F.type_list_pop mt_popAt (pv 2) (pa_cons (pe_call G__law_take (hr.mono (by omega)) (by rfl) T.g__law_take T.f__law_take.kp T.b__law_take .nil pass0 (pa_cons (pv 0) (pa_cons (pe_callB call_len_seq (by rfl) T.len PySem.boot_len (pa_cons (pv 2) pa_nil)) pa_nil))) pa_nil)) pa_nil)))))
 (pss_one (ps_ret (pv 3))))), ?_⟩
    refine ⟨_, rfl, _, _, rfl, .inl (sqEr hS), fun left nl => ⟨Nat.zero_le _, fun fnd nf => ⟨_, _, rfl, ?_⟩⟩⟩
    have nls : left ≠ st := S.ne nl
    have nf0 : H fnd = none := (Same.new nl).free nf
    have nfs : fnd ≠ st := S.ne nf0
    have nlf : left ≠ fnd := ne_of_none upd_same nf
    have el : er H st left = none := er_none nl
    have ef : er H st fnd = none := er_none nf0
    have g0 : Gs st c H (upd (upd H left (.lst (ss.map V.str))) fnd (.lst [])) b := (Gs.refl S).set S.hc el nls |>.set S.hc ef nfs
    refine while_ex (fun mm σ' H' => ∃ (ls fs : List Str), σ' = [some (.ref st), some (.ref t), some (.ref left), some (.ref fnd)] ∧ H' left = some (.lst (ls.map V.str)) ∧ H' fnd = some (.lst (fs.map V.str)) ∧ (fs ++ ls).Perm ss ∧ Gs st c H H' (b + (fs.length : Int)) ∧ mm = ls.length)
      (fun σ' H' => ∃ (fs : List Str), σ' = [some (.ref st), some (.ref t), some (.ref left), some (.ref fnd)] ∧ H' fnd = some (.lst (fs.map V.str)) ∧ fs.Perm ss ∧ Gs st c H H' (b + (fs.length : Int)))
      ⟨ss, [], rfl, by rw [upd_ne nlf, upd_same], by rw [upd_same]; rfl, List.Perm.refl _, by simpa using g0, rfl⟩ (fun nx hnx => ?_) ?_
    · rintro mm σ' H' ⟨ls, fs, rfl, h1, h2, hp, g, rfl⟩
      have hpl : fs.length + ls.length = ss.length := by rw [← List.length_append]; exact hp.length_eq
      have hls : ∀ s ∈ ls, PyData.strOk s = true := fun s hs => hok s (hp.mem_iff.mp (List.mem_append_right _ hs))
      refine ⟨_, rfl, Nat.zero_le _, fun e he => ⟨.list (ls.map PyData.str), .list [], ?_⟩⟩
      have h1' : upd H' e (.lst []) left = some (.lst (ls.map V.str)) := Same.new he _ _ h1
      have h2' : upd H' e (.lst []) fnd = some (.lst (fs.map V.str)) := Same.new he _ _ h2
      have g' : Gs st c H (upd H' e (.lst [])) (b + (fs.length : Int)) := g.new he
      refine ⟨.lst (SqL.of h1') (dpStrs ls), .lst (SqL.of upd_same) .nil, strs_shaped hls, by decide +kernel, _, rfl, ?_⟩
      rw [eqv_strs_nil]
      refine ite2 (fun hne => ?_) (fun hne => ?_)
      · have hpos : 0 < ls.length := by
          cases ls with
          | nil => cases hne
          | cons _ _ => exact Nat.succ_pos _
        refine ⟨_, fun _ _ z => z, ?_⟩
        refine ⟨_, rfl, .inl ⟨rfl, _, SqL.of h2'⟩, _, rfl, .inl ⟨rfl, _, SqL.of h1'⟩, _, rfl, _, rfl, _, _, rfl, .inl (SqL.of h1'), st, c, _, _, rfl, g'.sta, by omega, by rw [List.length_map]; omega, by rw [List.length_map]; omega, fun r o hr0 hr1 S' => ?_⟩
        rw [List.length_map] at hr1
        have g2 : Gs st c H (upd (upd H' e (.lst [])) st o) (b + (fs.length : Int) + 1) := g'.trans (Gs.of_upd S')
        have h1'' : upd (upd H' e (.lst [])) st o left = some (.lst (ls.map V.str)) := by rw [upd_ne nls]; exact h1'
        have h2'' : upd (upd H' e (.lst [])) st o fnd = some (.lst (fs.map V.str)) := by rw [upd_ne nfs]; exact h2'
        have hi : r.toNat < ls.length := by omega
        have hy : ls[r.toNat]? = some ls[r.toNat] := List.getElem?_eq_getElem hi
        refine ⟨_, _, _, r.toNat, _, rfl, rfl, h1'', by omega, by omega, ?_, by rw [List.getElem?_map, hy]; rfl, ?_⟩
        · rw [List.length_map]
          exact seqIx hr0 hr1
        · refine ⟨_, _, _, rfl, rfl, (by rw [upd_ne nlf.symm]; exact h2''), by rw [List.length_map]; exact Nat.lt_of_le_of_lt (show fs.length ≤ 64 by omega) (by decide), ?_⟩
          refine ⟨(ls.eraseIdx r.toNat).length, ?_, ls.eraseIdx r.toNat, fs ++ [ls[r.toNat]], rfl, ?_, ?_, (perm_move hy).trans hp, ?_, rfl⟩
          · rw [List.length_eraseIdx_of_lt hi]; omega
          · rw [upd_ne nlf, upd_same, map_erase]
          · rw [upd_same, List.map_append]; rfl
          · rw [List.length_append]
            refine Gs.le ((g2.set S.hc el nls).set S.hc ef nfs) (by simp; omega) (by simp; omega)
      · have hnil : ls = [] := by
          cases ls with
          | nil => rfl
          | cons _ _ => exact absurd rfl hne
        subst hnil
        exact hnx _ _ ⟨fs, rfl, h2', by rw [List.append_nil] at hp; exact hp, g'⟩
    · rintro σ' H' ⟨fs, rfl, h2, hp, g⟩
      refine ⟨_, rfl, k fnd fs H' hp (g.le (by have := hp.length_eq; omega) hb) (er_of nfs h2) ef⟩
def pool1 : List Str := ["a", "b", "rice", "fish", "start", "done", "wish", "zz"]
def pool2 : List Str := ["station", "clocks", "abcdefgh", "meal", "go", "wait", "cloc", "on"]
def pool : List Str := ["a", "b", "rice", "fish", "start", "done", "wish", "zz", "station", "clocks", "abcdefgh", "meal", "go", "wait", "cloc", "on"]
theorem pool_nodup : pool.Nodup := by decide +kernel
theorem pool_ok : ∀ s ∈ pool, PyData.strOk s = true := by decide +kernel
def spNames (K : PySem.W.Frag) : Sp := fun vs H Q _ => ∃ (st c : Addr) (b : Int) (n : Nat), vs = [.ref st, .int n] ∧ Sta H st c b ∧ b + 64 ≤ 1000000 ∧ n ≤ 16 ∧
  ∀ (p : Addr) (ys : List Str) (H' : Hp), ys.Nodup → (∀ s ∈ ys, s ∈ pool) → ys.length = n → Gs st c H H' (b + 64) → er H' st p = some (.lst (ys.map V.str)) → er H st p = none → Q (.ref p) H'
theorem ok_some (T : Txt K mg A) : FnOk P w K mg base CX0 2 A.a__law_some A.d__law_some P__law_some (spSome K) := by
  have G__law_take : FnOk P w K mg base CX0 1 A.a__law_take A.d__law_take P__law_take spTake := ok_take T
  refine T.f__law_some.ok sc__law_some (fun vs H Q E h => ?_) (fun cdv A' outer s H vs Q E hr h => ?_)
  · obtain ⟨st, c, t, ss, b, rfl, _⟩ := h
    rfl
  · obtain ⟨st, c, t, ss, b, rfl, S, hb, hS, hl, k⟩ := h
    refine ⟨_, (pss_one (ps_ret (pe_lc (own := [("_law_thing", 2)]) (g := gName 2) (by rfl) sc__law_some.nd (pi_list (pv 1)) (blkOk_by (N := N__law_some) (sc := defScope s__law_some) (by decide +kernel)) (fun _ _ _ _ _ => pg_name (i := 2) sc__law_some.nd rfl (Or.inl rfl)) (fun _ _ _ _ _ => pts_one (pt_cmpR op_eq (pe_call G__law_take (hr.mono (by omega)) (by rfl) T.g__law_take T.f__law_take.kp T.b__law_take .nil pass0 (pa_cons (pv 0) (pa_cons pe_int pa_nil))) pe_int (nomark _))) (fun _ _ _ _ _ => (pv 2))))), ?_⟩
    refine ⟨_, rfl, t, rfl, ⟨_, sqEr hS⟩, fun D hD => lc_list (K := K) (a := t) (xs := ss.map V.str)
      (fun i H' => ∃ ys : List Str, ys.Sublist (ss.take i) ∧ H' D = some (.lst (ys.map V.str)) ∧ Gs st c H H' (b + (i : Int))) ?_ ?_ ?_ ?_⟩
    · exact ⟨[], List.nil_sublist _, upd_same, by simpa using (Gs.refl S).new hD⟩
    · exact fun i H' _ ⟨_, _, _, g⟩ => sqEr (sqUp hS g.same)
    · rintro i x H' hx ⟨ys, hy, hD', g⟩
      have hi : i < ss.length := by
        have := (List.getElem?_eq_some_iff.mp hx).1
        rwa [List.length_map] at this
      have ex : x = V.str ss[i] := by
        rw [List.getElem?_map, List.getElem?_eq_getElem hi] at hx
        exact (Option.some.inj hx).symm
      subst ex
      have nD : D ≠ st := S.ne hD
      have eD : er H st D = none := er_none hD
      have hyl : ys.length ≤ 64 := Nat.le_trans hy.length_le (by rw [List.length_take]; omega)
      refine ⟨rfl, _, rfl, st, c, 2, _, rfl, g.sta, by omega, by omega, by omega, fun r o hr0 hr1 S' => ⟨rfl, _, rfl, ?_⟩⟩
      have g2 : Gs st c H (upd H' st o) (b + ((i + 1 : Nat) : Int)) := by
        have := g.trans (Gs.of_upd S')
        rwa [show b + (i : Int) + 1 = b + ((i + 1 : Nat) : Int) by omega] at this
      have hD2 : upd H' st o D = some (.lst (ys.map V.str)) := by rw [upd_ne nD]; exact hD'
      have et : ss.take (i + 1) = ss.take i ++ [ss[i]] := by rw [List.take_succ, List.getElem?_eq_getElem hi]; rfl
      refine ite2 (fun _ => ?_) (fun _ => ?_)
      · refine ⟨_, rfl, _, hD2, by rw [List.length_map]; exact Nat.lt_of_le_of_lt hyl (by decide), ys ++ [ss[i]], ?_, ?_, g2.set S.hc eD nD⟩
        · rw [et]; exact hy.append (List.Sublist.refl _)
        · rw [upd_same, List.map_append]; rfl
      · exact ⟨ys, by rw [et]; exact hy.trans (List.sublist_append_left _ _), hD2, g2⟩
    · rintro H' ⟨ys, hy, hD', g⟩
      rw [List.length_map, List.take_length] at hy
      exact k D ys H' hy (g.le (by rw [List.length_map]; omega) hb) (er_of (S.ne hD) hD') (er_none hD)
theorem ok_names (T : Txt K mg A) : FnOk P w K mg base CX0 3 A.a__law_names A.d__law_names P__law_names (spNames K) := by
  have G__law_mix : FnOk P w K mg base CX0 2 A.a__law_mix A.d__law_mix P__law_mix (spMix K) := ok_mix T
  refine T.f__law_names.ok sc__law_names (fun vs H Q E h => ?_) (fun cdv A' outer s H vs Q E hr h => ?_)
  · obtain ⟨st, c, b, n, rfl, _⟩ := h
    rfl
  · obtain ⟨st, c, b, n, rfl, S, hb, hn, k⟩ := h
    refine ⟨_, (pss_cons (ps_set (i := 2) sc__law_names.nd rfl (Or.inl rfl) (pe_lst (pa_cons pe_str (pa_cons pe_str (pa_cons pe_str (pa_cons pe_str (pa_cons pe_str (pa_cons pe_str (pa_cons pe_str (pa_cons pe_str pa_nil))))))))))
 (pss_one (ps_ret (pe_slice sl_list (pe_call G__law_mix (hr.mono (by omega)) (by rfl) T.g__law_mix T.f__law_mix.kp T.b__law_mix .nil pass0 (pa_cons (pv 0) (pa_cons (pe_op op_cat (pv 2) (pe_lst (pa_cons pe_str (pa_cons pe_str (pa_cons pe_str (pa_cons pe_str (pa_cons pe_str (pa_cons pe_str (pa_cons pe_str (pa_cons pe_str pa_nil)))))))))) pa_nil))) po_none (po_some (pv 1)))))), ?_⟩
    refine ⟨by show 8 ≤ sizeLine; decide, fun p hp => ?_⟩
    refine ⟨_, rfl, _, rfl, by show 8 ≤ sizeLine; decide, fun q hq => ?_⟩
    have g1 : Gs st c H (upd (upd H p (.lst (pool1.map V.str))) q (.lst (pool2.map V.str))) b := ((Gs.refl S).new hp).new hq
    have h1 : upd (upd H p (.lst (pool1.map V.str))) q (.lst (pool2.map V.str)) p = some (.lst (pool1.map V.str)) := by
      rw [upd_ne (ne_of_none upd_same hq), upd_same]
    refine ⟨_, _, _, _, rfl, rfl, h1, upd_same, by show 16 ≤ sizeLine; decide, fun t ht => ?_⟩
    have nt := g1.sta.ne ht
    have g0 : Gs st c H (upd (upd (upd H p (.lst (pool1.map V.str))) q (.lst (pool2.map V.str))) t (.lst (pool1.map V.str ++ pool2.map V.str))) b := g1.new ht
    refine ⟨st, c, t, pool, b, rfl, g0.sta, hb, SqL.of (er_of nt upd_same), by decide, pool_ok, fun l ys H' hperm g hl hl0 => ?_⟩
    refine ⟨_, rfl, _, rfl, _, _, rfl, SqL.of ((er_same _ _) _ _ hl), fun d hd => ?_⟩
    have hlen : ys.length = 16 := by rw [hperm.length_eq]; rfl
    have ec : cutV (ys.map V.str) none (some (n : Int)) = (ys.take n).map V.str := by
      unfold cutV
      rw [HT.sIx_none, HT.sIx_nat, List.drop_zero, Nat.sub_zero, List.map_take, List.length_map, hlen, Nat.min_eq_left hn]
    have g3 : Gs st c H (upd H' d (.lst (cutV (ys.map V.str) none (some (n : Int))))) (b + 64) := (g0.trans g).new hd
    have hnd : ys.Nodup := hperm.nodup_iff.mpr pool_nodup
    refine k d (ys.take n) _ (hnd.sublist (List.take_sublist _ _)) (fun s hs => hperm.mem_iff.mp (List.mem_of_mem_take hs)) (by rw [List.length_take]; omega) g3 (er_of (g.sta.ne hd) ?_) ?_
    · rw [upd_same, ec]
    · have e0 := er_none (st := st) hd
      exact ((g0.trans g).same).free e0
/-! ### data, and whether two are the same -/
def kindOf : PyData → String
  | .none => "NoneType"
  | .bool _ => "bool"
  | .int _ => "int"
  | .str _ => "str"
  | .list _ => "list"
  | .tuple _ => "tuple"
  | .dict _ => "dict"
theorem tyL {H : Hp} {a : Addr} {xs : List V} (h : SqL K H a xs) : TyX K H (.ref a) (.type "list") := by
  rcases h with (h | ⟨o, h⟩) | ⟨o, _, _, h1, h2, _⟩
  · exact .base (.lst h)
  · exact .base (.frz h)
  · exact .kList h1 h2
theorem tyT {H : Hp} {a : Addr} {xs : List V} (h : SqT K H a xs) : TyX K H (.ref a) (.type "tuple") := by
  rcases h with (h | ⟨o, h⟩) | ⟨o, _, _, h1, h2, _⟩
  · exact .base (.tup h)
  · exact .fTuple h
  · exact .kTuple h1 h2
theorem tyD {H : Hp} {v : V} {d : PyData} (h : Dp K H v d) : TyX K H v (.type (kindOf d)) := by
  cases h with
  | non => exact .base .non
  | bl b => exact .base (.bl b)
  | int i => exact .base (.int i)
  | str x => exact .base (.str x)
  | lst h _ => exact tyL h
  | tup h _ => exact tyT h
theorem kit2 {K : PySem.W.Frag} {a b c : String} {r s : Bool} (h : kitB a b = some r) (k : kitB a c = some s) : PySem.W.kitAny K (.type a) [.type b, .type c] = some (r || s) := by
  cases r with
  | true => exact kitAny_cons (kit_ty h) (fun z => nomatch z) (fun _ => rfl)
  | false => 
    refine kitAny_cons (kit_ty h) (fun _ => ?_) (fun z => nomatch z)
    cases s with
    | true => exact kitAny_cons (kit_ty k) (fun z => nomatch z) (fun _ => rfl)
    | false => exact kitAny_cons (kit_ty k) (fun _ => kitAny_nil) (fun z => nomatch z)
theorem kit3 {K : PySem.W.Frag} {a b c d : String} {r s t : Bool} (h : kitB a b = some r) (k : kitB a c = some s) (m : kitB a d = some t) : PySem.W.kitAny K (.type a) [.type b, .type c, .type d] = some (r || (s || t)) := by
  cases r with
  | true => exact kitAny_cons (kit_ty h) (fun z => nomatch z) (fun _ => rfl)
  | false =>
    have e := kit2 (K := K) k m
    rw [Bool.false_or]
    exact kitAny_cons (kit_ty h) (fun _ => e) (fun z => nomatch z)
theorem dpGet {H : Hp} : ∀ {vs : List V} {ds : List PyData} {i : Nat} {v : V}, DpAll K H vs ds → vs[i]? = some v → ∃ d, ds[i]? = some d ∧ Dp K H v d
  | _, _, 0, v, .cons a _, h => ⟨_, rfl, by rw [← Option.some.inj h]; exact a⟩
  | _, _, i + 1, v, .cons _ b, h => dpGet (i := i) b h
  | _, _, i, v, .nil, h => by simp at h
theorem dpLen {H : Hp} : ∀ {vs : List V} {ds : List PyData}, DpAll K H vs ds → vs.length = ds.length
  | _, _, .nil => rfl
  | _, _, .cons _ b => congrArg (· + 1) (dpLen b)
theorem walk_zipT {a b : Addr} {xs ys : List V} {n : Nat} (hn : n = min xs.length ys.length) : Walk (RZ.ItzT K a b) n (fun H => SqT K H a xs ∧ SqT K H b ys) (YPair (fun i => xs[i]?) (fun i => ys[i]?)) := by
  subst hn
  refine ⟨fun i H hi q => ⟨xs, ys, _, _, q.1, q.2, List.getElem?_eq_getElem (by omega), List.getElem?_eq_getElem (by omega)⟩, fun H q => ⟨xs, ys, q.1, q.2, by omega⟩, fun i H v H' hi q y => ?_⟩
  obtain ⟨T, x, z, e1, e2, e3, e4, e5⟩ := y
  exact ⟨T, x, z, e1, e2, e3, e4 _ q.1, e5 _ q.2⟩
mutual
/-- no list in it has more than a thousand things -/
def wid : PyData → Bool
  | .list xs | .tuple xs => decide (xs.length ≤ 1000) && widAll xs
  | _ => true
def widAll : List PyData → Bool
  | [] => true
  | x :: xs => wid x && widAll xs
end
theorem widAll_mem : ∀ {ds : List PyData} {d : PyData}, widAll ds = true → d ∈ ds → wid d = true
  | x :: xs, d, h, m => by
    simp only [widAll, Bool.and_eq_true] at h
    rcases List.mem_cons.mp m with e | m
    · rw [e]; exact h.1
    · exact widAll_mem h.2 m
theorem wid_parts {xs : List PyData} (h : wid (.list xs) = true ∨ wid (.tuple xs) = true) : xs.length ≤ 1000 ∧ widAll xs = true := by
  simp only [wid, Bool.and_eq_true, decide_eq_true_eq, or_self] at h
  exact h
/-- the promise of «same» for data of a depth below n -/
def spSame (K : PySem.W.Frag) (n : Nat) : Sp := fun vs H Q _ => ∃ (x y : V) (d : PyData), vs = [x, y] ∧ Dp K H x d ∧ Dp K H y d ∧ d.depth < n ∧ wid d = true ∧ ∀ H', Same H H' → Q (.bl true) H'
theorem no_fn {f : Addr} {fd : FuncData} {ps : List Str} {k : Nat} {sp : Sp} (h : ∀ vs H Q E, ¬ sp vs H Q E) : FnOk P w K mg base CX0 k f fd ps sp :=
  ⟨fun vs H Q E z => (h vs H Q E z).elim, fun _ _ _ _ _ _ _ _ _ _ _ _ _ z => (h _ _ _ _ z).elim⟩
theorem same_loop {J : It} {N n : Nat} {G : Hp → Prop} {xs ys : List V} {ds : List PyData} {H : Hp} {D : Addr} {x0 y0 : V} {Qd : Hp → Prop} (wk : Walk J N G (YPair (fun i => xs[i]?) (fun i => ys[i]?))) (hx : DpAll K H xs ds) (hy : DpAll K H ys ds)
    (hd : PyData.depthAll ds < n) (hw : widAll ds = true) (hN : N ≤ 1000) (hG : ∀ H', Same H H' → G H') (hD : H D = none) (hq : ∀ H', Same H H' → H' D = some (.lst ((List.replicate N true).map V.bl)) → Qd H') :
    ∃ W : Nat → Nat → Hp → Prop, (∃ m, W 0 m (upd H D (.lst []))) ∧ ∀ i m H, W i m H →
      (J.stop i H ∧ Qd H) ∨ (J.go i H ∧ ∃ Nx : Hp → Prop, (∀ H', Nx H' → ∃ m', m' < m ∧ W (i + 1) m' H') ∧ ∀ x H', J.yld i H x H' →
        gTup K 2 (gCons (gName 2) (gCons (gName 3) gNil)) x (wipe [some x0, some y0, none, none] [2, 3]) H' fun σ2 H2 => wipe σ2 [2, 3] = wipe [some x0, some y0, none, none] [2, 3] ∧ tYes σ2 H2 fun b H3 =>
        if b = true then (tCall (spSame K n) [] E0 (tCons (tVar 2) (tCons (tVar 3) tNil))) σ2 H3 fun y H4 => ∃ acc, H4 D = some (.lst acc) ∧ acc.length < sizeLine ∧ Nx (upd H4 D (.lst (acc ++ [y]))) else Nx H3) := by
  have same_upd : ∀ {H' : Hp} {o : HO}, Same H H' → Same H (upd H' D o) := fun s b u e => by
    rw [upd_ne (ne_of_none e hD)]; exact s _ _ e
  refine lc_it wk (fun i H' => Same H H' ∧ H' D = some (.lst ((List.replicate i true).map V.bl))) ⟨Same.new hD, upd_same⟩ (fun i H' _ p => hG H' p.1) ?_ (fun H' p => hq H' p.1 p.2)
  rintro i v H' H'' hi ⟨s1, hD'⟩ ⟨T, x, y, rfl, hT, rfl, hx', hy'⟩
  obtain ⟨d, hd1, dx⟩ := dpGet hx hx'
  obtain ⟨d', hd2, dy⟩ := dpGet hy hy'
  rw [hd1] at hd2
  cases hd2
  have hdep : d.depth < n := Nat.lt_of_le_of_lt (PyData.depth_le_depthAll ds d (List.mem_of_getElem? hd1)) hd
  have s2 := s1.trans (Same.new (o := .tup [x, y]) hT)
  refine ⟨T, [x, y], rfl, SqT.of upd_same, rfl, _, _, rfl, _, _, rfl, rfl, rfl, ?_⟩
  refine ⟨_, rfl, _, rfl, x, y, d, rfl, dpSame s2 dx, dpSame s2 dy, hdep, widAll_mem hw (List.mem_of_getElem? hd1), fun H3 s3 => ?_⟩
  have hD3 : H3 D = some (.lst ((List.replicate i true).map V.bl)) := s3 _ _ (Same.new hT _ _ hD')
  refine ⟨_, hD3, by rw [List.length_map, List.length_replicate]; exact Nat.lt_of_lt_of_le hi (Nat.le_trans hN (by decide)), same_upd (s2.trans s3), ?_⟩
  rw [upd_same, List.replicate_succ', List.map_append]
  rfl
theorem all_true (n : Nat) : (List.replicate n true).all id = true := by
  induction n with
  | zero => rfl
  | succ n ih => rw [List.replicate_succ, List.all_cons, ih]; rfl
theorem ok_same (T : Txt K mg A) : ∀ n : Nat, FnOk P w K mg base CX0 n A.a__law_same A.d__law_same P__law_same (spSame K n)
  | 0 => no_fn fun vs H Q E ⟨_, _, _, _, _, _, h, _⟩ => absurd h (Nat.not_lt_zero _)
  | n + 1 => by
    have G__law_same : FnOk P w K mg base CX0 n A.a__law_same A.d__law_same P__law_same (spSame K n) := ok_same T n
    refine T.f__law_same.ok sc__law_same (fun vs H Q E h => ?_) (fun cdv A' outer s H vs Q E hr h => ?_)
    · obtain ⟨x, y, d, rfl, _⟩ := h
      rfl
    · obtain ⟨x, y, d, rfl, hx, hy, hd, hw, k⟩ := h
      refine ⟨_, (pss_cons (ps_if (pt_val (pe_callB call_isiT (by rfl) T.isinstance (by decide +kernel) (pa_cons (pv 1) (pa_cons (pe_tup (pa_cons (pe_bltn (v := .ty "list") (u := .type "list") (by rfl) T.list (by decide +kernel) rfl) (pa_cons (pe_bltn (v := .ty "tuple") (u := .type "tuple") (by rfl) T.tuple (by decide +kernel) rfl) pa_nil))) pa_nil))))
 (pss_cons (ps_if (PW.pt (pw_or (pt_cmpR op_ne (pe_callB call_isi (by rfl) T.isinstance (by decide +kernel) (pa_cons (pv 0) (pa_cons (pe_bltn (v := .ty "list") (u := .type "list") (by rfl) T.list (by decide +kernel) rfl) pa_nil))) (pe_callB call_isi (by rfl) T.isinstance (by decide +kernel) (pa_cons (pv 1) (pa_cons (pe_bltn (v := .ty "list") (u := .type "list") (by rfl) T.list (by decide +kernel) rfl) pa_nil))) (nomark _)) (pw_or1 (pt_cmpR op_ne (pe_callB call_isi (by rfl) T.isinstance (by decide +kernel) (pa_cons (pv 0) (pa_cons (pe_bltn (v := .ty "tuple") (u := .type "tuple") (by rfl) T.tuple (by decide +kernel) rfl) pa_nil))) (pe_callB call_isi (by rfl) T.isinstance (by decide +kernel) (pa_cons (pv 1) (pa_cons (pe_bltn (v := .ty "tuple") (u := .type "tuple") (by rfl) T.tuple (by decide +kernel) rfl) pa_nil))) (nomark _)))))
 (pss_one (ps_ret pe_bl))
 pss_nil)
 (pss_one (ps_ret (pe_and (pe_cmpR op_eq (pe_callB call_len_seq (by rfl) T.len PySem.boot_len (pa_cons (pv 0) pa_nil)) (pe_callB call_len_seq (by rfl) T.len PySem.boot_len (pa_cons (pv 1) pa_nil)) (nomark _)) (pe_one (pe_callB (cr_all rfl) (by rfl) T.all (by decide +kernel) (pa_cons (pe_lc (own := [("_law_x", 2), ("_law_y", 3)]) (g := gTup K 2 (gCons (gName 2) (gCons (gName 3) gNil))) (by rfl) sc__law_same.nd (RZ.pi_zipA (by rfl) T.zip (pa_cons (pv 0) (pa_cons (pv 1) pa_nil))) (blkOk_by (N := N__law_same) (sc := defScope s__law_same) (by decide +kernel)) (fun _ _ _ _ _ => (pg_tup rfl (pgs_cons (pg_name (i := 2) sc__law_same.nd rfl (Or.inl rfl)) (pgs_cons (pg_name (i := 3) sc__law_same.nd rfl (Or.inl rfl)) pgs_nil)))) (fun _ _ _ _ _ => pts_nil) (fun _ _ _ _ _ => (pe_call G__law_same (hr.mono (by omega)) (by rfl) T.g__law_same T.f__law_same.kp T.b__law_same .nil pass0 (pa_cons (pv 2) (pa_cons (pv 3) pa_nil))))) pa_nil)))))))
 pss_nil)
 (pss_cons (ps_if (pt_val (pe_callB call_isi (by rfl) T.isinstance (by decide +kernel) (pa_cons (pv 1) (pa_cons (pe_bltn (v := .ty "int") (u := .type "int") (by rfl) T.int (by decide +kernel) rfl) pa_nil))))
 (pss_one (ps_ret (pe_and (pe_callB call_isi (by rfl) T.isinstance (by decide +kernel) (pa_cons (pv 0) (pa_cons (pe_bltn (v := .ty "int") (u := .type "int") (by rfl) T.int (by decide +kernel) rfl) pa_nil))) (pe_and (pe_cmpR op_eq (pe_callB call_isi (by rfl) T.isinstance (by decide +kernel) (pa_cons (pv 0) (pa_cons (pe_bltn (v := .ty "bool") (u := .type "bool") (by rfl) T.bool (by decide +kernel) rfl) pa_nil))) (pe_callB call_isi (by rfl) T.isinstance (by decide +kernel) (pa_cons (pv 1) (pa_cons (pe_bltn (v := .ty "bool") (u := .type "bool") (by rfl) T.bool (by decide +kernel) rfl) pa_nil))) (nomark _)) (pe_one (pe_cmpR op_eq (pv 0) (pv 1) (nomark _)))))))
 pss_nil)
 (pss_one (ps_ret (pe_and (pe_cmpR op_isBl (pe_callB call_isiT (by rfl) T.isinstance (by decide +kernel) (pa_cons (pv 0) (pa_cons (pe_tup (pa_cons (pe_bltn (v := .ty "int") (u := .type "int") (by rfl) T.int (by decide +kernel) rfl) (pa_cons (pe_bltn (v := .ty "list") (u := .type "list") (by rfl) T.list (by decide +kernel) rfl) (pa_cons (pe_bltn (v := .ty "tuple") (u := .type "tuple") (by rfl) T.tuple (by decide +kernel) rfl) pa_nil)))) pa_nil))) pe_bl (nomark _)) (pe_one (pe_cmpR op_eq (pv 0) (pv 1) (nomark _)))))))), ?_⟩
      -- isinstance(due, (list, tuple))
      refine ⟨_, rfl, by show 2 ≤ sizeLine; decide, fun p hp => ?_⟩
      have s1 : Same H (upd H p (.tup [.ty "list", .ty "tuple"])) := Same.new hp
      have hx1 := dpSame s1 hx
      have hy1 := dpSame s1 hy
      cases hx with
      | non =>
        cases hy
        refine ⟨_, p, _, _, _, false, rfl, upd_same, .cons (.ty _) (.cons (.ty _) .nil), .base .non, kit2 (a := "NoneType") (b := "list") (c := "tuple") (r := false) (s := false) (by decide +kernel) (by decide +kernel), _, rfl, iteF ?_⟩
        refine ⟨_, rfl, _, _, .type "NoneType", _, false, rfl, .ty _, .base .non, kit_ty (by decide +kernel), _, rfl, iteF ?_⟩
        refine ⟨_, rfl, by show 3 ≤ sizeLine; decide, fun q hq => ⟨_, q, _, _, _, false, rfl, upd_same, .cons (.ty _) (.cons (.ty _) (.cons (.ty _) .nil)), .base .non, kit3 (a := "NoneType") (b := "int") (c := "list") (d := "tuple") (r := false) (s := false) (t := false) (by decide +kernel) (by decide +kernel) (by decide +kernel), _, _, rfl, rfl, _, rfl, iteT ⟨_, rfl, _, rfl, rfl, ?_⟩⟩⟩
        exact k _ (s1.trans (Same.new hq))
      | str z =>
        cases hy
        refine ⟨_, p, _, _, _, false, rfl, upd_same, .cons (.ty _) (.cons (.ty _) .nil), .base (.str _), kit2 (a := "str") (b := "list") (c := "tuple") (r := false) (s := false) (by decide +kernel) (by decide +kernel), _, rfl, iteF ?_⟩
        refine ⟨_, rfl, _, _, .type "str", _, false, rfl, .ty _, .base (.str _), kit_ty (by decide +kernel), _, rfl, iteF ?_⟩
        refine ⟨_, rfl, by show 3 ≤ sizeLine; decide, fun q hq => ⟨_, q, _, _, _, false, rfl, upd_same, .cons (.ty _) (.cons (.ty _) (.cons (.ty _) .nil)), .base (.str _), kit3 (a := "str") (b := "int") (c := "list") (d := "tuple") (r := false) (s := false) (t := false) (by decide +kernel) (by decide +kernel) (by decide +kernel), _, _, rfl, rfl, _, rfl, iteT ⟨_, rfl, _, rfl, rfl, ?_⟩⟩⟩
        rw [decide_eq_true rfl]
        exact k _ (s1.trans (Same.new hq))
      | int i =>
        cases hy
        refine ⟨_, p, _, _, _, false, rfl, upd_same, .cons (.ty _) (.cons (.ty _) .nil), .base (.int _), kit2 (a := "int") (b := "list") (c := "tuple") (r := false) (s := false) (by decide +kernel) (by decide +kernel), _, rfl, iteF ?_⟩
        refine ⟨_, rfl, _, _, .type "int", _, true, rfl, .ty _, .base (.int _), kit_ty (by decide +kernel), _, rfl, iteT ?_⟩
        refine ⟨_, rfl, _, _, .type "int", _, true, rfl, .ty _, .base (.int _), kit_ty (by decide +kernel), _, rfl, iteT ?_⟩
        refine ⟨_, rfl, _, _, .type "int", _, false, rfl, .ty _, .base (.int _), kit_ty (by decide +kernel), _, rfl, _, _, .type "int", _, false, rfl, .ty _, .base (.int _), kit_ty (by decide +kernel), rfl, _, rfl, iteT ⟨_, rfl, _, rfl, rfl, ?_⟩⟩
        rw [decide_eq_true rfl]
        exact k _ s1
      | bl b =>
        cases hy
        refine ⟨_, p, _, _, _, false, rfl, upd_same, .cons (.ty _) (.cons (.ty _) .nil), .base (.bl _), kit2 (a := "bool") (b := "list") (c := "tuple") (r := false) (s := false) (by decide +kernel) (by decide +kernel), _, rfl, iteF ?_⟩
        refine ⟨_, rfl, _, _, .type "bool", _, true, rfl, .ty _, .base (.bl _), kit_ty (by decide +kernel), _, rfl, iteT ?_⟩
        refine ⟨_, rfl, _, _, .type "bool", _, true, rfl, .ty _, .base (.bl _), kit_ty (by decide +kernel), _, rfl, iteT ?_⟩
        refine ⟨_, rfl, _, _, .type "bool", _, true, rfl, .ty _, .base (.bl _), kit_ty (by decide +kernel), _, rfl, _, _, .type "bool", _, true, rfl, .ty _, .base (.bl _), kit_ty (by decide +kernel), rfl, _, rfl, iteT ⟨_, rfl, _, rfl, rfl, ?_⟩⟩
        rw [decide_eq_true rfl]
        exact k _ s1
      | lst hL hA =>
        cases hy with
        | lst hL2 hA2 =>
          obtain ⟨w1, w2⟩ := wid_parts (.inl hw)
          have l1 := dpLen hA
          have l2 := dpLen hA2
          have t1 := tyL (sqUp hL s1)
          have t2 := tyL (sqUp hL2 s1)
          refine ⟨_, p, _, _, _, true, rfl, upd_same, .cons (.ty _) (.cons (.ty _) .nil), t2, kit2 (a := "list") (b := "list") (c := "tuple") (r := true) (s := false) (by decide +kernel) (by decide +kernel), _, rfl, iteT ?_⟩
          refine ⟨_, rfl, _, _, .type "list", _, true, rfl, .ty _, t1, kit_ty (by decide +kernel), _, rfl, _, _, .type "list", _, true, rfl, .ty _, t2, kit_ty (by decide +kernel), rfl, _, rfl, iteF ?_⟩
          refine ⟨_, rfl, _, _, .type "list", _, false, rfl, .ty _, t1, kit_ty (by decide +kernel), _, rfl, _, _, .type "list", _, false, rfl, .ty _, t2, kit_ty (by decide +kernel), rfl, _, rfl, iteF ?_⟩
          refine ⟨_, rfl, _, _, rfl, .inl (sqUp hL s1), _, rfl, _, _, rfl, .inl (sqUp hL2 s1), rfl, true, ?_, iteT ?_⟩
          · rw [decide_eq_true (by rw [l1, l2])]
          · refine ⟨_, rfl, _, rfl, _, _, _, _, rfl, .inl ⟨sqUp hL s1, sqUp hL2 s1, fun D hD => same_loop (walk_zip rfl) (dpAllSame s1 hA) (dpAllSame s1 hA2) (by simp only [PyData.depth] at hd; omega) w2 (by omega) (fun H' s' => ⟨sqUp hL (s1.trans s'), sqUp hL2 (s1.trans s')⟩) hD (fun H' s' hD' => ?_)⟩⟩
            refine ⟨D, _, rfl, SqL.of hD', ?_⟩
            rw [all_true]
            exact k _ (s1.trans s')
      | tup hL hA =>
        cases hy with
        | tup hL2 hA2 =>
          obtain ⟨w1, w2⟩ := wid_parts (.inr hw)
          have l1 := dpLen hA
          have l2 := dpLen hA2
          have t1 := tyT (stUp hL s1)
          have t2 := tyT (stUp hL2 s1)
          refine ⟨_, p, _, _, _, true, rfl, upd_same, .cons (.ty _) (.cons (.ty _) .nil), t2, kit2 (a := "tuple") (b := "list") (c := "tuple") (r := false) (s := true) (by decide +kernel) (by decide +kernel), _, rfl, iteT ?_⟩
          refine ⟨_, rfl, _, _, .type "tuple", _, false, rfl, .ty _, t1, kit_ty (by decide +kernel), _, rfl, _, _, .type "tuple", _, false, rfl, .ty _, t2, kit_ty (by decide +kernel), rfl, _, rfl, iteF ?_⟩
          refine ⟨_, rfl, _, _, .type "tuple", _, true, rfl, .ty _, t1, kit_ty (by decide +kernel), _, rfl, _, _, .type "tuple", _, true, rfl, .ty _, t2, kit_ty (by decide +kernel), rfl, _, rfl, iteF ?_⟩
          refine ⟨_, rfl, _, _, rfl, .inr (stUp hL s1), _, rfl, _, _, rfl, .inr (stUp hL2 s1), rfl, true, ?_, iteT ?_⟩
          · rw [decide_eq_true (by rw [l1, l2])]
          · refine ⟨_, rfl, _, rfl, _, _, _, _, rfl, .inr ⟨stUp hL s1, stUp hL2 s1, fun D hD => same_loop (walk_zipT rfl) (dpAllSame s1 hA) (dpAllSame s1 hA2) (by simp only [PyData.depth] at hd; omega) w2 (by omega) (fun H' s' => ⟨stUp hL (s1.trans s'), stUp hL2 (s1.trans s')⟩) hD (fun H' s' hD' => ?_)⟩⟩
            refine ⟨D, _, rfl, SqL.of hD', ?_⟩
            rw [all_true]
            exact k _ (s1.trans s')
/-! ### wishes as data; a list that grows -/
def wsh (s a t b : Str) (m : Int) : PyData := .tuple [.tuple [.str s, .str a], .tuple [.str t, .str b], .int m]
def two (a b : Str) (m : Int) : List PyData := [wsh "done" a "done" b m, wsh "done" b "done" a m]
def row (m : Int) (a : Str) : List Str → List PyData
  | [] => []
  | b :: r => two a b m ++ row m a r
def tgs (m : Int) : List Str → List PyData
  | [] => []
  | a :: r => row m a r ++ tgs m r
theorem row_len (m : Int) (a : Str) : ∀ r : List Str, (row m a r).length = 2 * r.length
  | [] => rfl
  | b :: r => by rw [row, List.length_append, row_len m a r, List.length_cons]; simp [two]; omega
theorem tgs_len (m : Int) : ∀ r : List Str, (tgs m r).length ≤ 2 * (r.length * r.length)
  | [] => Nat.zero_le _
  | a :: r => by
    rw [tgs, List.length_append, row_len, List.length_cons]
    have := tgs_len m r
    have e : (r.length + 1) * (r.length + 1) = r.length * r.length + 2 * r.length + 1 := by rw [Nat.add_mul, Nat.mul_add]; omega
    omega
structure Grow (K : PySem.W.Frag) (p : Addr) (H H' : Hp) (ds : List PyData) : Prop where
  ex : ∃ vs, H' p = some (.lst vs) ∧ DpAll K (er H' p) vs ds
  same : Same H (er H' p)
theorem Grow.start {p : Addr} {H : Hp} (hp : H p = none) : Grow K p H (upd H p (.lst [])) [] :=
  ⟨⟨[], upd_same, .nil⟩, fun b o e => by rw [er_upd]; exact er_of (ne_of_none e hp) e⟩
theorem Grow.up {p : Addr} {H H' H2 : Hp} {ds : List PyData} (g : Grow K p H H' ds) (s : Same H' H2) : Grow K p H H2 ds := by
  obtain ⟨vs, h1, h2⟩ := g.ex
  exact ⟨⟨vs, s _ _ h1, dpAllSame (er_mono s) h2⟩, g.same.trans (er_mono s)⟩
theorem dpAllApp {H : Hp} : ∀ {vs : List V} {ds : List PyData} {v : V} {d : PyData}, DpAll K H vs ds → Dp K H v d → DpAll K H (vs ++ [v]) (ds ++ [d])
  | _, _, _, _, .nil, h => .cons h .nil
  | _, _, _, _, .cons a b, h => .cons a (dpAllApp b h)
theorem Grow.app {p : Addr} {H H' : Hp} {ds : List PyData} {vs : List V} {v : V} {d : PyData} (g : Grow K p H H' ds) (hp : H' p = some (.lst vs)) (hv : Dp K (er H' p) v d) : Grow K p H (upd H' p (.lst (vs ++ [v]))) (ds ++ [d]) := by
  obtain ⟨vs', h1, h2⟩ := g.ex
  rw [hp] at h1
  cases h1
  exact ⟨⟨_, upd_same, by rw [er_upd]; exact dpAllApp h2 hv⟩, by rw [er_upd]; exact g.same⟩
theorem Grow.dp {p : Addr} {H H' : Hp} {ds : List PyData} (g : Grow K p H H' ds) : Dp K H' (.ref p) (.list ds) := by
  obtain ⟨vs, h1, h2⟩ := g.ex
  exact .lst (SqL.of h1) (dpAllSame (er_same _ _) h2)
theorem wish_made {H : Hp} {p t1 t2 t3 : Addr} {o : HO} {s a t b : Str} {m : Int} (hp : H p = some o) (h1 : H t1 = none) (h2 : upd H t1 (.tup [.str s, .str a]) t2 = none) (h3 : upd (upd H t1 (.tup [.str s, .str a])) t2 (.tup [.str t, .str b]) t3 = none) :
    Same H (upd (upd (upd H t1 (.tup [.str s, .str a])) t2 (.tup [.str t, .str b])) t3 (.tup [.ref t1, .ref t2, .int m])) ∧
    Dp K (er (upd (upd (upd H t1 (.tup [.str s, .str a])) t2 (.tup [.str t, .str b])) t3 (.tup [.ref t1, .ref t2, .int m])) p) (.ref t3) (wsh s a t b m) := by
  have s1 : Same H (upd H t1 (.tup [.str s, .str a])) := Same.new h1
  have s2 : Same (upd H t1 (.tup [.str s, .str a])) (upd (upd H t1 (.tup [.str s, .str a])) t2 (.tup [.str t, .str b])) := Same.new h2
  have s3 : Same (upd (upd H t1 (.tup [.str s, .str a])) t2 (.tup [.str t, .str b])) (upd (upd (upd H t1 (.tup [.str s, .str a])) t2 (.tup [.str t, .str b])) t3 (.tup [.ref t1, .ref t2, .int m])) := Same.new h3
  have n1 : t1 ≠ p := (ne_of_none hp h1).symm
  have n2 : t2 ≠ p := (ne_of_none (s1 _ _ hp) h2).symm
  have n3 : t3 ≠ p := (ne_of_none (s2 _ _ (s1 _ _ hp)) h3).symm
  refine ⟨(s1.trans s2).trans s3, .tup (SqT.of (er_of n3 upd_same)) (.cons (.tup (SqT.of (er_of n1 (s3 _ _ (s2 _ _ upd_same)))) (.cons (.str _) (.cons (.str _) .nil))) (.cons (.tup (SqT.of (er_of n2 (s3 _ _ upd_same))) (.cons (.str _) (.cons (.str _) .nil))) (.cons (.int _) .nil)))⟩
def SqX (K : PySem.W.Frag) (H : Hp) (a : Addr) (xs : List V) : Prop := SqL K H a xs ∨ SqT K H a xs
theorem sxUp {H H' : Hp} {a : Addr} {xs : List V} (h : SqX K H a xs) (s : Same H H') : SqX K H' a xs := h.elim (fun q => .inl (sqUp q s)) (fun q => .inr (stUp q s))
/-- what makes a list of wishes -/
def Made (K : PySem.W.Frag) (H : Hp) (Q : VK) (ds : List PyData) : Prop := ∀ p H', H p = none → Grow K p H H' ds → Q (.ref p) H'
def spTg (K : PySem.W.Frag) : Sp := fun vs H Q _ => ∃ (t : Addr) (ns : List Str) (m : Int), vs = [.ref t, .int m] ∧ SqX K H t (ns.map V.str) ∧ ns.length ≤ 64 ∧ Made K H Q (tgs m ns)
def spKeep (K : PySem.W.Frag) : Sp := fun vs H Q _ => ∃ (t : Addr) (a : Str) (ns : List Str) (m : Int), vs = [.str a, .ref t, .int m] ∧ SqX K H t (ns.map V.str) ∧ ns.length ≤ 64 ∧ Made K H Q (ns.map fun b => wsh "done" a "done" b m)
def rdy (m : Int) (b : Str) : PyData := .tuple [.str "clock", .tuple [.str "done", .str b], .int m]
def spReady (K : PySem.W.Frag) : Sp := fun vs H Q _ => ∃ (t : Addr) (ns : List Str) (m : Int), vs = [.ref t, .int m] ∧ SqX K H t (ns.map V.str) ∧ ns.length ≤ 64 ∧ Made K H Q (ns.map (rdy m))
def spBehind (K : PySem.W.Frag) : Sp := fun vs H Q _ => ∃ (a b : Str) (m : Int), vs = [.str a, .str b, .int m] ∧ Made K H Q [wsh "start" a "done" b (-m)]
theorem wish_made0 {H : Hp} {t1 t2 t3 : Addr} {s a t b : Str} {m : Int} (h1 : H t1 = none) (h2 : upd H t1 (.tup [.str s, .str a]) t2 = none) (h3 : upd (upd H t1 (.tup [.str s, .str a])) t2 (.tup [.str t, .str b]) t3 = none) :
    Same H (upd (upd (upd H t1 (.tup [.str s, .str a])) t2 (.tup [.str t, .str b])) t3 (.tup [.ref t1, .ref t2, .int m])) ∧
    Dp K (upd (upd (upd H t1 (.tup [.str s, .str a])) t2 (.tup [.str t, .str b])) t3 (.tup [.ref t1, .ref t2, .int m])) (.ref t3) (wsh s a t b m) := by
  have s1 : Same H (upd H t1 (.tup [.str s, .str a])) := Same.new h1
  have s2 : Same (upd H t1 (.tup [.str s, .str a])) (upd (upd H t1 (.tup [.str s, .str a])) t2 (.tup [.str t, .str b])) := Same.new h2
  have s3 : Same (upd (upd H t1 (.tup [.str s, .str a])) t2 (.tup [.str t, .str b])) (upd (upd (upd H t1 (.tup [.str s, .str a])) t2 (.tup [.str t, .str b])) t3 (.tup [.ref t1, .ref t2, .int m])) := Same.new h3
  exact ⟨(s1.trans s2).trans s3, .tup (SqT.of upd_same) (.cons (.tup (SqT.of (s3 _ _ (s2 _ _ upd_same))) (.cons (.str _) (.cons (.str _) .nil))) (.cons (.tup (SqT.of (s3 _ _ upd_same)) (.cons (.str _) (.cons (.str _) .nil))) (.cons (.int _) .nil)))⟩
theorem same_erp {H : Hp} {p : Addr} {o : HO} (hp : H p = none) : Same H (er (upd H p o) p) := fun b u e => by
  rw [er_upd]; exact er_of (ne_of_none e hp) e
theorem seq_or {H0 H : Hp} {t : Addr} {xs : List V} {j : Nat} {σ : St} {R : It → Hp → Prop} (h : SqX K H0 t xs) (s0 : Same H0 H) (hj : σ[j]? = some (some (.ref t))) (hR : ∀ J G, Walk J xs.length G (YAt xs) → (∀ H', Same H0 H' → G H') → R J H) :
    iList K (tVar j) σ H R ∨ iTup K (tVar j) σ H R :=
  h.elim (fun q => .inl ⟨_, hj, t, rfl, ⟨_, sqUp q s0⟩, hR _ _ walk_list fun H' s => sqUp q s⟩) (fun q => .inr ⟨_, hj, t, rfl, ⟨_, stUp q s0⟩, hR _ _ walk_tup fun H' s => stUp q s⟩)
theorem enum_or {H0 H : Hp} {t : Addr} {xs : List V} {j : Nat} {σ : St} {R : It → Hp → Prop} (h : SqX K H0 t xs) (s0 : Same H0 H) (hj : σ[j]? = some (some (.ref t))) (hR : ∀ J G, Walk J xs.length G (YPair (fun i => some (.int (i : Nat))) (fun i => xs[i]?)) → (∀ H', Same H0 H' → G H') → R J H) :
    iEnum K (tCons (tVar j) tNil) σ H R ∨ EnT.iEnumT K (tCons (tVar j) tNil) σ H R :=
  h.elim (fun q => .inl ⟨_, hj, t, _, rfl, sqUp q s0, hR _ _ walk_enum fun H' s => sqUp q s⟩) (fun q => .inr ⟨_, hj, t, _, rfl, stUp q s0, hR _ _ EnT.walk_enumT fun H' s => stUp q s⟩)
theorem cut_from {xs : List V} {i : Nat} (hi : i ≤ xs.length) : cutV xs (some ((i : Int))) none = xs.drop i := by
  unfold cutV
  rw [HT.sIx_none, HT.sIx_nat, Nat.min_eq_left hi, List.take_of_length_le (by rw [List.length_drop]; exact Nat.le_refl _)]
theorem slice_or {H : Hp} {t : Addr} {xs : List V} {j l i : Nat} {σ : St} {R : It → Hp → Prop} (h : SqX K H t xs) (hj : σ[j]? = some (some (.ref t))) (hl : σ[l]? = some (some (.int (i : Nat)))) (hi : i < xs.length)
    (hR : ∀ s o J G, H s = none → Walk J (xs.drop (i + 1)).length G (YAt (xs.drop (i + 1))) → (∀ H', H' s = some o → G H') → R J (upd H s o)) :
    iList K (tSl (fun x lo hi H Q => rSlL K x lo hi H Q ∨ rSlT K x lo hi H Q) (tVar j) (tPart (tOp (rI0 fun i j => V.int (i + j)) (tVar l) (tC (V.int 1)))) tNoPart) σ H R ∨
    iTup K (tSl (fun x lo hi H Q => rSlL K x lo hi H Q ∨ rSlT K x lo hi H Q) (tVar j) (tPart (tOp (rI0 fun i j => V.int (i + j)) (tVar l) (tC (V.int 1)))) tNoPart) σ H R := by
  have e1 : ((i : Int) + 1) = ((i + 1 : Nat) : Int) := by omega
  have ec : cutV xs (some ((i : Int) + 1)) none = xs.drop (i + 1) := by rw [e1]; exact cut_from hi
  rcases h with q | q
  · refine .inl ⟨_, hj, _, hl, _, _, rfl, rfl, _, rfl, .inl ⟨t, _, rfl, q, fun s hs => ⟨s, rfl, ⟨_, SqL.of upd_same⟩, ?_⟩⟩⟩
    rw [ec]
    exact hR s _ _ _ hs walk_list fun H' s' => SqL.of s'
  · refine .inr ⟨_, hj, _, hl, _, _, rfl, rfl, _, rfl, .inr ⟨t, _, rfl, q, ?_, fun s hs => ⟨s, rfl, ⟨_, SqT.of upd_same⟩, ?_⟩⟩⟩
    · intro z
      have z1 := z.1
      rw [e1, HT.sIx_nat, Nat.min_eq_left hi] at z1
      cases z1
    · rw [ec]
      exact hR s _ _ _ hs walk_tup fun H' s' => SqT.of s'
theorem str_at {ns : List Str} {i : Nat} {x : V} (h : (ns.map V.str)[i]? = some x) : ∃ hi : i < ns.length, x = V.str ns[i] := by
  have hi : i < ns.length := by
    have := (List.getElem?_eq_some_iff.mp h).1
    rwa [List.length_map] at this
  refine ⟨hi, ?_⟩
  rw [List.getElem?_map, List.getElem?_eq_getElem hi] at h
  exact (Option.some.inj h).symm
theorem take_map {α β : Type} (f : α → β) {xs : List α} {i : Nat} (hi : i < xs.length) : (xs.take (i + 1)).map f = (xs.take i).map f ++ [f xs[i]] := by
  rw [List.take_succ, List.getElem?_eq_getElem hi, List.map_append]; rfl
theorem ok_behind (T : Txt K mg A) : FnOk P w K mg base CX0 1 A.a_behind A.d_behind P_behind (spBehind K) := by
  refine T.f_behind.ok sc_behind (fun vs H Q E h => ?_) (fun cdv A' outer s H vs Q E hr h => ?_)
  · obtain ⟨a, b, m, rfl, _⟩ := h
    rfl
  · obtain ⟨a, b, m, rfl, k⟩ := h
    refine ⟨_, (pss_one (ps_ret (pe_lst (pa_cons (pe_tup (pa_cons (pe_tup (pa_cons pe_str (pa_cons (pv 0) pa_nil))) (pa_cons (pe_tup (pa_cons pe_str (pa_cons (pv 1) pa_nil))) (pa_cons (pe_un un_neg (pv 2)) pa_nil)))) pa_nil)))), ?_⟩
    refine ⟨_, rfl, by show 2 ≤ sizeLine; decide, fun t1 h1 => ⟨_, rfl, by show 2 ≤ sizeLine; decide, fun t2 h2 => ⟨_, rfl, _, rfl, by show 3 ≤ sizeLine; decide, fun t3 h3 => ⟨by show 1 ≤ sizeLine; decide, fun p hp => ?_⟩⟩⟩⟩
    obtain ⟨s3, d3⟩ := wish_made0 (K := K) (m := -m) h1 h2 h3
    refine k p _ (s3.free hp) ⟨⟨_, upd_same, .cons (dpSame (same_erp hp) d3) .nil⟩, s3.trans (same_erp hp)⟩
theorem ok_keeping (T : Txt K mg A) : FnOk P w K mg base CX0 1 A.a_keeping A.d_keeping P_keeping (spKeep K) := by
  refine T.f_keeping.ok sc_keeping (fun vs H Q E h => ?_) (fun cdv A' outer s H vs Q E hr h => ?_)
  · obtain ⟨t, a, ns, m, rfl, _⟩ := h
    rfl
  · obtain ⟨t, a, ns, m, rfl, hS, hl, k⟩ := h
    refine ⟨_, (pss_one (ps_ret (pe_lc (own := [("other", 3)]) (g := gName 3) (by rfl) sc_keeping.nd (EnT.pi_or (pi_list (pv 1)) (pi_tup (pv 1))) (blkOk_by (N := N_keeping) (sc := defScope s_keeping) (by decide +kernel)) (fun _ _ _ _ _ => pg_name (i := 3) sc_keeping.nd rfl (Or.inl rfl)) (fun _ _ _ _ _ => pts_nil) (fun _ _ _ _ _ => (pe_tup (pa_cons (pe_tup (pa_cons pe_str (pa_cons (pv 0) pa_nil))) (pa_cons (pe_tup (pa_cons pe_str (pa_cons (pv 3) pa_nil))) (pa_cons (pv 2) pa_nil)))))))), ?_⟩
    refine seq_or hS (Same.refl _) rfl fun J G wk hG => fun D hD => lc_it wk (fun i H' => Grow K D H H' ((ns.take i).map fun b => wsh "done" a "done" b m)) (Grow.start hD) (fun i H' _ g => hG H' (g.same.trans (er_same _ _))) ?_ (fun H' g => ?_)
    · rintro i x H' H'' hi g ⟨rfl, hx⟩
      obtain ⟨hi, rfl⟩ := str_at hx
      obtain ⟨acc, hp, hA⟩ := id g.ex
      have hlen := dpLen hA
      rw [List.length_map, List.length_take] at hlen
      refine ⟨rfl, _, rfl, by show 2 ≤ sizeLine; decide, fun t1 h1 => ⟨_, rfl, by show 2 ≤ sizeLine; decide, fun t2 h2 => ⟨_, rfl, by show 3 ≤ sizeLine; decide, fun t3 h3 => ?_⟩⟩⟩
      obtain ⟨s3, d3⟩ := wish_made (K := K) (m := m) hp h1 h2 h3
      refine ⟨acc, s3 _ _ hp, Nat.lt_of_le_of_lt (show acc.length ≤ 64 by omega) (by decide), ?_⟩
      rw [take_map _ hi]
      exact (g.up s3).app (s3 _ _ hp) d3
    · rw [List.length_map, List.take_length] at g
      exact k D H' hD g
theorem ok_ready (T : Txt K mg A) : FnOk P w K mg base CX0 1 A.a_ready_by A.d_ready_by P_ready_by (spReady K) := by
  refine T.f_ready_by.ok sc_ready_by (fun vs H Q E h => ?_) (fun cdv A' outer s H vs Q E hr h => ?_)
  · obtain ⟨t, ns, m, rfl, _⟩ := h
    rfl
  · obtain ⟨t, ns, m, rfl, hS, hl, k⟩ := h
    refine ⟨_, (pss_one (ps_ret (pe_lc (own := [("name", 2)]) (g := gName 2) (by rfl) sc_ready_by.nd (EnT.pi_or (pi_list (pv 0)) (pi_tup (pv 0))) (blkOk_by (N := N_ready_by) (sc := defScope s_ready_by) (by decide +kernel)) (fun _ _ _ _ _ => pg_name (i := 2) sc_ready_by.nd rfl (Or.inl rfl)) (fun _ _ _ _ _ => pts_nil) (fun _ _ _ _ _ => (pe_tup (pa_cons (pe_glob (v := .str "clock") (by rfl) T.g_CLOCK.choose_spec ⟨_, rfl⟩) (pa_cons (pe_tup (pa_cons pe_str (pa_cons (pv 2) pa_nil))) (pa_cons (pv 1) pa_nil)))))))), ?_⟩
    refine seq_or hS (Same.refl _) rfl fun J G wk hG => fun D hD => lc_it wk (fun i H' => Grow K D H H' ((ns.take i).map (rdy m))) (Grow.start hD) (fun i H' _ g => hG H' (g.same.trans (er_same _ _))) ?_ (fun H' g => ?_)
    · rintro i x H' H'' hi g ⟨rfl, hx⟩
      obtain ⟨hi, rfl⟩ := str_at hx
      obtain ⟨acc, hp, hA⟩ := id g.ex
      have hlen := dpLen hA
      rw [List.length_map, List.length_take] at hlen
      refine ⟨rfl, _, rfl, by show 2 ≤ sizeLine; decide, fun t1 h1 => ⟨_, rfl, by show 3 ≤ sizeLine; decide, fun t2 h2 => ?_⟩⟩
      have s1 := Same.new (o := .tup [.str "done", .str ns[i]]) h1
      have s2 := Same.new (o := .tup [.str "clock", .ref t1, .int m]) h2
      have n1 : t1 ≠ D := (ne_of_none hp h1).symm
      have n2 : t2 ≠ D := (ne_of_none (s1 _ _ hp) h2).symm
      refine ⟨acc, s2 _ _ (s1 _ _ hp), Nat.lt_of_le_of_lt (show acc.length ≤ 64 by omega) (by decide), ?_⟩
      rw [take_map _ hi]
      refine (g.up (s1.trans s2)).app (s2 _ _ (s1 _ _ hp)) (.tup (SqT.of (er_of n2 upd_same)) (.cons (.str _) (.cons (.tup (SqT.of (er_of n1 (s2 _ _ upd_same))) (.cons (.str _) (.cons (.str _) .nil))) (.cons (.int _) .nil))))
    · rw [List.length_map, List.take_length] at g
      exact k D H' hD g
theorem tgs_step {m : Int} {ns : List Str} {i : Nat} (hi : i < ns.length) : tgs m (ns.drop i) = row m ns[i] (ns.drop (i + 1)) ++ tgs m (ns.drop (i + 1)) := by
  rw [List.drop_eq_getElem_cons hi]; rfl
theorem row_step {m : Int} {a : Str} {r : List Str} {j : Nat} (hj : j < r.length) : row m a (r.drop j) = two a r[j] m ++ row m a (r.drop (j + 1)) := by
  rw [List.drop_eq_getElem_cons hj]; rfl
/-- two further wishes -/
theorem Grow.two {p : Addr} {H H' : Hp} {ds : List PyData} (g : Grow K p H H' ds) {a b : Str} {m : Int} {t1 t2 t3 : Addr} (h1 : H' t1 = none) (h2 : upd H' t1 (.tup [.str "done", .str a]) t2 = none) (h3 : upd (upd H' t1 (.tup [.str "done", .str a])) t2 (.tup [.str "done", .str b]) t3 = none) :
    ∀ vs, H' p = some (.lst vs) → Grow K p H (upd (upd (upd (upd H' t1 (.tup [.str "done", .str a])) t2 (.tup [.str "done", .str b])) t3 (.tup [.ref t1, .ref t2, .int m])) p (.lst (vs ++ [.ref t3]))) (ds ++ [wsh "done" a "done" b m]) := fun vs hp => by
  obtain ⟨s3, d3⟩ := wish_made (K := K) (m := m) hp h1 h2 h3
  exact (g.up s3).app (s3 _ _ hp) d3
theorem ok_together (T : Txt K mg A) : FnOk P w K mg base CX0 1 A.a_together A.d_together P_together (spTg K) := by
  refine T.f_together.ok sc_together (fun vs H Q E h => ?_) (fun cdv A' outer s H vs Q E hr h => ?_)
  · obtain ⟨t, ns, m, rfl, _⟩ := h
    rfl
  · obtain ⟨t, ns, m, rfl, hS, hl, k⟩ := h
    refine ⟨_, (pss_cons (ps_set (i := 2) sc_together.nd rfl (Or.inl rfl) (pe_lst pa_nil))
 (pss_cons (ps_for PassesOwn.never rfl (EnT.pi_or (pi_enum (by rfl) T.enumerate (pa_cons (pv 0) pa_nil)) (EnT.pi_enumT (by rfl) T.enumerate (pa_cons (pv 0) pa_nil))) (pg_tup (by rfl) (pgs_cons (pg_name (i := 3) sc_together.nd rfl (Or.inl rfl)) (pgs_cons (pg_name (i := 4) sc_together.nd rfl (Or.inl rfl)) pgs_nil)))
 (pss_one (ps_for PassesOwn.never rfl (EnT.pi_or (pi_list (pe_slice (sl_list.or sl_tup) (pv 0) (po_some (pe_op op_add (pv 3) pe_int)) po_none)) (pi_tup (pe_slice (sl_list.or sl_tup) (pv 0) (po_some (pe_op op_add (pv 3) pe_int)) po_none))) (pg_name (i := 5) sc_together.nd rfl (Or.inl rfl))
 (pss_cons (ps_expr (pe_bm PySem.F.plainAttrs_list PySem.F.slot_list_append PySem.F.type_list_append mt_append (pv 2) (pa_cons (pe_tup (pa_cons (pe_tup (pa_cons pe_str (pa_cons (pv 4) pa_nil))) (pa_cons (pe_tup (pa_cons pe_str (pa_cons (pv 5) pa_nil))) (pa_cons (pv 1) pa_nil)))) pa_nil)))
 (pss_one (ps_expr (pe_bm PySem.F.plainAttrs_list PySem.F.slot_list_append PySem.F.type_list_append mt_append (pv 2) (pa_cons (pe_tup (pa_cons (pe_tup (pa_cons pe_str (pa_cons (pv 5) pa_nil))) (pa_cons (pe_tup (pa_cons pe_str (pa_cons (pv 4) pa_nil))) (pa_cons (pv 1) pa_nil)))) pa_nil))))))))
 (pss_one (ps_ret (pv 2))))), ?_⟩
    have hbig : ∀ {H' : Hp} {p : Addr} {acc : List V} {ds rest : List PyData}, DpAll K (er H' p) acc ds → ds ++ rest = tgs m ns → acc.length ≤ 8192 := fun hA e => by
      have h1 := dpLen hA
      have h2 := congrArg List.length e
      rw [List.length_append] at h2
      have h3 := tgs_len m ns
      have h4 : ns.length * ns.length ≤ 64 * 64 := Nat.mul_le_mul hl hl
      omega
    refine ⟨Nat.zero_le _, fun p hp => ?_⟩
    refine enum_or hS (Same.new hp) rfl fun J G wk hG => for_it wk (fun i σ' H' => ∃ (u v x : Option V) (ds : List PyData), σ' = [some (.ref t), some (.int m), some (.ref p), u, v, x] ∧ Grow K p H H' ds ∧ ds ++ tgs m (ns.drop i) = tgs m ns)
      ⟨none, none, none, [], rfl, Grow.start hp, rfl⟩ ?_ ?_ ?_
    · exact fun i σ' H' _ ⟨_, _, _, _, _, g, _⟩ => hG H' (g.same.trans (er_same _ _))
    · rintro i v σ' H' H'' hi ⟨u1, u2, u3, ds, rfl, g, e⟩ ⟨T, x, y, rfl, hT, rfl, hx, hy⟩
      obtain ⟨hi, rfl⟩ := str_at hy
      have ex : x = .int (i : Nat) := (Option.some.inj hx).symm
      subst ex
      have g1 := g.up (Same.new (o := .tup [.int (i : Nat), .str ns[i]]) hT)
      have sN : Same H (upd H' T (.tup [.int (i : Nat), .str ns[i]])) := g1.same.trans (er_same _ _)
      refine ⟨T, _, rfl, SqT.of upd_same, rfl, _, _, rfl, _, _, rfl, rfl, ?_⟩
      have hrl : (ns.drop (i + 1)).length = ns.length - (i + 1) := List.length_drop
      refine slice_or (sxUp hS sN) rfl rfl (by rw [List.length_map]; exact hi) fun s o J2 G2 hs wk2 hG2 => ?_
      rw [← List.map_drop] at wk2
      have sS : Same (upd H' T (.tup [.int (i : Nat), .str ns[i]])) (upd (upd H' T (.tup [.int (i : Nat), .str ns[i]])) s o) := Same.new hs
      have g2 := g1.up sS
      have nsp : s ≠ p := by
        obtain ⟨acc, hp', _⟩ := g1.ex
        exact (ne_of_none hp' hs).symm
      refine for_it wk2 (fun j σ' H3 => ∃ (x : Option V) (ds : List PyData), σ' = [some (.ref t), some (.int m), some (.ref p), some (.int (i : Nat)), some (.str ns[i]), x] ∧ Grow K p H H3 ds ∧ H3 s = some o ∧ ds ++ (row m ns[i] ((ns.drop (i + 1)).drop j) ++ tgs m (ns.drop (i + 1))) = tgs m ns)
        ⟨u3, ds, rfl, g2, upd_same, by rw [List.drop_zero, ← tgs_step hi]; exact e⟩ ?_ ?_ ?_
      · exact fun j σ' H3 _ ⟨_, _, _, _, hs3, _⟩ => hG2 H3 hs3
      · rintro j v σ' H3 H4 hj ⟨x, ds, rfl, g, hs3, e⟩ ⟨rfl, hv⟩
        obtain ⟨hj, rfl⟩ := str_at hv
        generalize hb : (ns.drop (i + 1))[j] = b
        generalize ha : ns[i] = a
        obtain ⟨acc, hp3, hA⟩ := id g.ex
        have hsz : ∀ n : Nat, n ≤ 8200 → n < sizeLine := fun n h => Nat.lt_of_le_of_lt h (by decide)
        have hl1 := hbig hA e
        refine ⟨_, rfl, .inl ⟨rfl, _, SqL.of hp3⟩, _, rfl, by show 2 ≤ sizeLine; decide, fun t1 h1 => ⟨_, rfl, by show 2 ≤ sizeLine; decide, fun t2 h2 => ⟨_, rfl, by show 3 ≤ sizeLine; decide, fun t3 h3 => ?_⟩⟩⟩
        have s3 := (wish_made (K := K) (m := m) hp3 h1 h2 h3).1
        have g4 := g.two (m := m) h1 h2 h3 acc hp3
        refine ⟨p, acc, _, rfl, rfl, s3 _ _ hp3, hsz _ (by omega), ?_⟩
        have hs4 : upd (upd (upd (upd H4 t1 (.tup [.str "done", .str a])) t2 (.tup [.str "done", .str b])) t3 (.tup [.ref t1, .ref t2, .int m])) p (.lst (acc ++ [.ref t3])) s = some o := by
          rw [upd_ne nsp]; exact s3 _ _ hs3
        have hp5 : upd (upd (upd (upd H4 t1 (.tup [.str "done", .str a])) t2 (.tup [.str "done", .str b])) t3 (.tup [.ref t1, .ref t2, .int m])) p (.lst (acc ++ [.ref t3])) p = some (.lst (acc ++ [.ref t3])) := upd_same
        generalize upd (upd (upd (upd H4 t1 (.tup [.str "done", .str a])) t2 (.tup [.str "done", .str b])) t3 (.tup [.ref t1, .ref t2, .int m])) p (.lst (acc ++ [.ref t3])) = H5 at g4 hs4 hp5 ⊢
        refine ⟨_, rfl, .inl ⟨rfl, _, SqL.of hp5⟩, _, rfl, by show 2 ≤ sizeLine; decide, fun t4 h4 => ⟨_, rfl, by show 2 ≤ sizeLine; decide, fun t5 h5 => ⟨_, rfl, by show 3 ≤ sizeLine; decide, fun t6 h6 => ?_⟩⟩⟩
        have s6 := (wish_made (K := K) (m := m) hp5 h4 h5 h6).1
        have g6 := g4.two (m := m) h4 h5 h6 _ hp5
        refine ⟨p, _, _, rfl, rfl, s6 _ _ hp5, hsz _ (by rw [List.length_append, List.length_singleton]; omega), ?_⟩
        refine ⟨_, _, rfl, g6, by rw [upd_ne nsp]; exact s6 _ _ hs4, ?_⟩
        rw [row_step hj, hb] at e
        rw [← e]
        simp [two, ha]
      · rintro σ' H3 ⟨x, ds, rfl, g, hs3, e⟩
        rw [List.length_map, List.drop_length] at e
        exact ⟨_, _, _, ds, rfl, g, e⟩
    · rintro σ' H' ⟨u, v, x, ds, rfl, g, e⟩
      refine ⟨_, rfl, k p H' hp ?_⟩
      rw [List.length_map, List.drop_length, tgs, List.append_nil] at e
      rwa [e] at g
def spLTg (K : PySem.W.Frag) : Sp := fun vs H Q _ => ∃ (t : Addr) (ns : List Str) (m : Int), vs = [.ref t, .int m] ∧ SqL K H t (ns.map V.str) ∧ ns.length ≤ 64 ∧ Made K H Q (tgs m ns)
theorem ok_ltogether (T : Txt K mg A) : FnOk P w K mg base CX0 1 A.a__law_together A.d__law_together P__law_together (spLTg K) := by
  refine T.f__law_together.ok sc__law_together (fun vs H Q E h => ?_) (fun cdv A' outer s H vs Q E hr h => ?_)
  · obtain ⟨t, ns, m, rfl, _⟩ := h
    rfl
  · obtain ⟨t, ns, m, rfl, hS, hl, k⟩ := h
    refine ⟨_, (pss_cons (ps_set (i := 2) sc__law_together.nd rfl (Or.inl rfl) (pe_lst pa_nil))
 (pss_cons (ps_for PassesOwn.never rfl (pi_range1 (by rfl) T.range (pa_cons (pe_callB call_len_seq (by rfl) T.len PySem.boot_len (pa_cons (pv 0) pa_nil)) pa_nil)) (pg_name (i := 3) sc__law_together.nd rfl (Or.inl rfl))
 (pss_one (ps_for PassesOwn.never rfl (pi_range2 (by rfl) T.range (pa_cons (pe_op op_add (pv 3) pe_int) (pa_cons (pe_callB call_len_seq (by rfl) T.len PySem.boot_len (pa_cons (pv 0) pa_nil)) pa_nil))) (pg_name (i := 4) sc__law_together.nd rfl (Or.inl rfl))
 (pss_cons (ps_expr (pe_bm PySem.F.plainAttrs_list PySem.F.slot_list_append PySem.F.type_list_append mt_append (pv 2) (pa_cons (pe_tup (pa_cons (pe_tup (pa_cons pe_str (pa_cons (pe_ix ix_list (pv 0) (pv 3) (fun _ _ => rfl)) pa_nil))) (pa_cons (pe_tup (pa_cons pe_str (pa_cons (pe_ix ix_list (pv 0) (pv 4) (fun _ _ => rfl)) pa_nil))) (pa_cons (pv 1) pa_nil)))) pa_nil)))
 (pss_one (ps_expr (pe_bm PySem.F.plainAttrs_list PySem.F.slot_list_append PySem.F.type_list_append mt_append (pv 2) (pa_cons (pe_tup (pa_cons (pe_tup (pa_cons pe_str (pa_cons (pe_ix ix_list (pv 0) (pv 4) (fun _ _ => rfl)) pa_nil))) (pa_cons (pe_tup (pa_cons pe_str (pa_cons (pe_ix ix_list (pv 0) (pv 3) (fun _ _ => rfl)) pa_nil))) (pa_cons (pv 1) pa_nil)))) pa_nil))))))))
 (pss_one (ps_ret (pv 2))))), ?_⟩
    have hbig : ∀ {H' : Hp} {p : Addr} {acc : List V} {ds rest : List PyData}, DpAll K (er H' p) acc ds → ds ++ rest = tgs m ns → acc.length ≤ 8192 := fun hA e => by
      have h1 := dpLen hA
      have h2 := congrArg List.length e
      rw [List.length_append] at h2
      have h3 := tgs_len m ns
      have h4 : ns.length * ns.length ≤ 64 * 64 := Nat.mul_le_mul hl hl
      omega
    have hsz : ∀ n : Nat, n ≤ 8200 → n < sizeLine := fun n h => Nat.lt_of_le_of_lt h (by decide)
    have hn : ((ns.map V.str).length : Int) = (ns.length : Int) := by rw [List.length_map]
    refine ⟨Nat.zero_le _, fun p hp => ?_⟩
    refine ⟨_, rfl, t, _, rfl, .inl (sqUp hS (Same.new hp)), _, rfl, by omega, by omega, for_range (lo := 0) (n := ((ns.map V.str).length : Int).toNat) (fun i σ' H' => ∃ (u v : Option V) (ds : List PyData), σ' = [some (.ref t), some (.int m), some (.ref p), u, v] ∧ Grow K p H H' ds ∧ ds ++ tgs m (ns.drop i) = tgs m ns)
      ⟨none, none, [], rfl, Grow.start hp, rfl⟩ ?_ ?_⟩
    · rintro i σ' H' hi ⟨u1, u2, ds, rfl, g, e⟩
      have hi : i < ns.length := by omega
      have sN : Same H H' := g.same.trans (er_same _ _)
      refine ⟨_, rfl, _, _, rfl, rfl, _, rfl, t, _, rfl, .inl (sqUp hS sN), _, _, rfl, ⟨by omega, by omega, by omega, by omega⟩, for_range (lo := 0 + (i : Int) + 1) (n := (((ns.map V.str).length : Int) - (0 + (i : Int) + 1)).toNat) (fun j σ' H3 => ∃ (x : Option V) (ds : List PyData), σ' = [some (.ref t), some (.int m), some (.ref p), some (.int (0 + (i : Int))), x] ∧ Grow K p H H3 ds ∧ ds ++ (row m ns[i] ((ns.drop (i + 1)).drop j) ++ tgs m (ns.drop (i + 1))) = tgs m ns)
        ⟨u2, ds, rfl, g, by rw [List.drop_zero, ← tgs_step hi]; exact e⟩ ?_ ?_⟩
      · rintro j σ' H4 hj ⟨x, ds, rfl, g, e⟩
        have hj : j < (ns.drop (i + 1)).length := by rw [List.length_drop]; omega
        have hj2 : i + 1 + j < ns.length := by omega
        have sN : Same H H4 := g.same.trans (er_same _ _)
        have ia : ∀ {z : Int} {n : Nat} (hn : n < ns.length), z = (n : Int) → atI (ns.map V.str) z = some (V.str ns[n]) := fun {z n} hn hz => at_of hz (by rw [List.getElem?_map, List.getElem?_eq_getElem hn]; rfl)
        have eb : (ns.drop (i + 1))[j] = ns[i + 1 + j] := List.getElem_drop ..
        rw [row_step hj, eb] at e
        have ib := ia hj2 (z := 0 + (i : Int) + 1 + (j : Int)) (by omega)
        have ia := ia hi (z := 0 + (i : Int)) (by omega)
        generalize ns[i + 1 + j] = b at e ib
        generalize ns[i] = a at e ia
        obtain ⟨acc, hp3, hA⟩ := id g.ex
        have hl1 := hbig hA e
        refine ⟨_, rfl, .inl ⟨rfl, _, SqL.of hp3⟩, _, rfl, _, rfl, t, _, _, _, rfl, rfl, sqUp hS sN, ia, by show 2 ≤ sizeLine; decide, fun t1 h1 => ⟨_, rfl, _, rfl, t, _, _, _, rfl, rfl, sqUp hS (sN.trans (Same.new h1)), ib, by show 2 ≤ sizeLine; decide, fun t2 h2 => ⟨_, rfl, by show 3 ≤ sizeLine; decide, fun t3 h3 => ?_⟩⟩⟩
        have s3 := (wish_made (K := K) (m := m) hp3 h1 h2 h3).1
        have g4 := g.two (m := m) h1 h2 h3 acc hp3
        refine ⟨p, acc, _, rfl, rfl, s3 _ _ hp3, hsz _ (by omega), ?_⟩
        have hp5 : upd (upd (upd (upd H4 t1 (.tup [.str "done", .str a])) t2 (.tup [.str "done", .str b])) t3 (.tup [.ref t1, .ref t2, .int m])) p (.lst (acc ++ [.ref t3])) p = some (.lst (acc ++ [.ref t3])) := upd_same
        generalize upd (upd (upd (upd H4 t1 (.tup [.str "done", .str a])) t2 (.tup [.str "done", .str b])) t3 (.tup [.ref t1, .ref t2, .int m])) p (.lst (acc ++ [.ref t3])) = H5 at g4 hp5 ⊢
        have sN5 : Same H H5 := g4.same.trans (er_same _ _)
        refine ⟨_, rfl, .inl ⟨rfl, _, SqL.of hp5⟩, _, rfl, _, rfl, t, _, _, _, rfl, rfl, sqUp hS sN5, ib, by show 2 ≤ sizeLine; decide, fun t4 h4 => ⟨_, rfl, _, rfl, t, _, _, _, rfl, rfl, sqUp hS (sN5.trans (Same.new h4)), ia, by show 2 ≤ sizeLine; decide, fun t5 h5 => ⟨_, rfl, by show 3 ≤ sizeLine; decide, fun t6 h6 => ?_⟩⟩⟩
        have s6 := (wish_made (K := K) (m := m) hp5 h4 h5 h6).1
        have g6 := g4.two (m := m) h4 h5 h6 _ hp5
        refine ⟨p, _, _, rfl, rfl, s6 _ _ hp5, hsz _ (by rw [List.length_append, List.length_singleton]; omega), ?_⟩
        refine ⟨_, _, rfl, g6, ?_⟩
        rw [← e]
        simp [two]
      · rintro σ' H3 ⟨x, ds, rfl, g, e⟩
        have : (ns.drop (i + 1)).drop (((ns.map V.str).length : Int) - (0 + (i : Int) + 1)).toNat = [] := List.drop_eq_nil_of_le (by rw [List.length_drop]; omega)
        rw [this] at e
        exact ⟨_, _, ds, rfl, g, e⟩
    · rintro σ' H' ⟨u, v, ds, rfl, g, e⟩
      refine ⟨_, rfl, k p H' hp ?_⟩
      have : ns.drop ((ns.map V.str).length : Int).toNat = [] := List.drop_eq_nil_of_le (by omega)
      rw [this, tgs, List.append_nil] at e
      rwa [e] at g
def isI : PyData → Bool | .int _ => true | _ => false
def isL : PyData → Bool | .list _ => true | .tuple _ => true | _ => false
def spIsInt (K : PySem.W.Frag) : Sp := fun vs H Q _ => ∃ (x : V) (d : PyData), vs = [x] ∧ Dp K H x d ∧ Q (.bl (isI d)) H
def spIsList (K : PySem.W.Frag) : Sp := fun vs H Q _ => ∃ (x : V) (d : PyData), vs = [x] ∧ Dp K H x d ∧ ∀ H', Same H H' → Q (.bl (isL d)) H'
theorem ok_isint (T : Txt K mg A) : FnOk P w K mg base CX0 1 A.a_is_integer A.d_is_integer P_is_integer (spIsInt K) := by
  refine T.f_is_integer.ok sc_is_integer (fun vs H Q E h => ?_) (fun cdv A' outer s H vs Q E hr h => ?_)
  · obtain ⟨x, d, rfl, _⟩ := h
    rfl
  · obtain ⟨x, d, rfl, hx, k⟩ := h
    refine ⟨_, (pss_one (ps_ret (pe_and (pe_callB call_isi (by rfl) T.isinstance (by decide +kernel) (pa_cons (pv 0) (pa_cons (pe_bltn (v := .ty "int") (u := .type "int") (by rfl) T.int (by decide +kernel) rfl) pa_nil))) (pe_one (pe_not (pe_callB call_isi (by rfl) T.isinstance (by decide +kernel) (pa_cons (pv 0) (pa_cons (pe_bltn (v := .ty "bool") (u := .type "bool") (by rfl) T.bool (by decide +kernel) rfl) pa_nil)))))))), ?_⟩
    cases hx with
    | non => exact ⟨_, rfl, _, _, .type "NoneType", _, false, rfl, .ty _, .base .non, kit_ty (by decide +kernel), _, rfl, iteF k⟩
    | str z => exact ⟨_, rfl, _, _, .type "str", _, false, rfl, .ty _, .base (.str _), kit_ty (by decide +kernel), _, rfl, iteF k⟩
    | int i => exact ⟨_, rfl, _, _, .type "int", _, true, rfl, .ty _, .base (.int _), kit_ty (by decide +kernel), _, rfl, iteT ⟨_, rfl, _, _, .type "int", _, false, rfl, .ty _, .base (.int _), kit_ty (by decide +kernel), _, rfl, k⟩⟩
    | bl b => exact ⟨_, rfl, _, _, .type "bool", _, true, rfl, .ty _, .base (.bl _), kit_ty (by decide +kernel), _, rfl, iteT ⟨_, rfl, _, _, .type "bool", _, true, rfl, .ty _, .base (.bl _), kit_ty (by decide +kernel), _, rfl, k⟩⟩
    | lst h _ => exact ⟨_, rfl, _, _, .type "list", _, false, rfl, .ty _, tyL h, kit_ty (by decide +kernel), _, rfl, iteF k⟩
    | tup h _ => exact ⟨_, rfl, _, _, .type "tuple", _, false, rfl, .ty _, tyT h, kit_ty (by decide +kernel), _, rfl, iteF k⟩
theorem ok_islist (T : Txt K mg A) : FnOk P w K mg base CX0 1 A.a_is_list A.d_is_list P_is_list (spIsList K) := by
  refine T.f_is_list.ok sc_is_list (fun vs H Q E h => ?_) (fun cdv A' outer s H vs Q E hr h => ?_)
  · obtain ⟨x, d, rfl, _⟩ := h
    rfl
  · obtain ⟨x, d, rfl, hx, k⟩ := h
    refine ⟨_, (pss_one (ps_ret (pe_callB call_isiT (by rfl) T.isinstance (by decide +kernel) (pa_cons (pv 0) (pa_cons (pe_tup (pa_cons (pe_bltn (v := .ty "list") (u := .type "list") (by rfl) T.list (by decide +kernel) rfl) (pa_cons (pe_bltn (v := .ty "tuple") (u := .type "tuple") (by rfl) T.tuple (by decide +kernel) rfl) pa_nil))) pa_nil))))), ?_⟩
    refine ⟨_, rfl, by show 2 ≤ sizeLine; decide, fun p hp => ?_⟩
    have s1 : Same H (upd H p (.tup [.ty "list", .ty "tuple"])) := Same.new hp
    have k := k _ s1
    cases dpSame s1 hx with
    | non => exact ⟨_, p, _, _, _, false, rfl, upd_same, .cons (.ty _) (.cons (.ty _) .nil), .base .non, kit2 (a := "NoneType") (b := "list") (c := "tuple") (r := false) (s := false) (by decide +kernel) (by decide +kernel), k⟩
    | str z => exact ⟨_, p, _, _, _, false, rfl, upd_same, .cons (.ty _) (.cons (.ty _) .nil), .base (.str _), kit2 (a := "str") (b := "list") (c := "tuple") (r := false) (s := false) (by decide +kernel) (by decide +kernel), k⟩
    | int z => exact ⟨_, p, _, _, _, false, rfl, upd_same, .cons (.ty _) (.cons (.ty _) .nil), .base (.int _), kit2 (a := "int") (b := "list") (c := "tuple") (r := false) (s := false) (by decide +kernel) (by decide +kernel), k⟩
    | bl z => exact ⟨_, p, _, _, _, false, rfl, upd_same, .cons (.ty _) (.cons (.ty _) .nil), .base (.bl _), kit2 (a := "bool") (b := "list") (c := "tuple") (r := false) (s := false) (by decide +kernel) (by decide +kernel), k⟩
    | lst h _ => exact ⟨_, p, _, _, _, true, rfl, upd_same, .cons (.ty _) (.cons (.ty _) .nil), tyL h, kit2 (a := "list") (b := "list") (c := "tuple") (r := true) (s := false) (by decide +kernel) (by decide +kernel), k⟩
    | tup h _ => exact ⟨_, p, _, _, _, true, rfl, upd_same, .cons (.ty _) (.cons (.ty _) .nil), tyT h, kit2 (a := "tuple") (b := "list") (c := "tuple") (r := false) (s := true) (by decide +kernel) (by decide +kernel), k⟩
def letters : Str := "abcdefghijklmnopqrstuvwxyz"
structure Nm (s : Str) : Prop where
  noclock : s ≠ "clock"
  pos : 1 ≤ s.length
  most : s.length ≤ 8
  low : ∀ c ∈ s.cps.toList, c ∈ letters.cps.toList
theorem pool_nm : ∀ s ∈ pool, Nm s := by
  have h : ∀ s ∈ pool, (decide (s ≠ "clock") && (decide (1 ≤ s.length) && (decide (s.length ≤ 8) && s.cps.toList.all fun c => decide (c ∈ letters.cps.toList)))) = true := by decide +kernel
  intro s hs
  have := h s hs
  simp only [Bool.and_eq_true, decide_eq_true_eq, List.all_eq_true] at this
  exact ⟨this.1, this.2.1, this.2.2.1, this.2.2.2⟩
def spIsName : Sp := fun vs H Q _ => ∃ (s : Str), vs = [.str s] ∧ Nm s ∧ ∀ H', Same H H' → Q (.bl true) H'
theorem ok_isname (T : Txt K mg A) : FnOk P w K mg base CX0 1 A.a_is_name A.d_is_name P_is_name spIsName := by
  refine T.f_is_name.ok sc_is_name (fun vs H Q E h => ?_) (fun cdv A' outer s H vs Q E hr h => ?_)
  · obtain ⟨s, rfl, _⟩ := h
    rfl
  · obtain ⟨z, rfl, N, k⟩ := h
    refine ⟨_, (pss_cons (ps_if (PW.pt (pw_or (pt_not (pt_val (pe_callB call_isi (by rfl) T.isinstance (by decide +kernel) (pa_cons (pv 0) (pa_cons (pe_bltn (v := .ty "str") (u := .type "str") (by rfl) T.str (by decide +kernel) rfl) pa_nil))))) (pw_or1 (pt_cmpR op_eq (pv 0) (pe_glob (v := .str "clock") (by rfl) T.g_CLOCK.choose_spec ⟨_, rfl⟩) (nomark _)))))
 (pss_one (ps_ret pe_bl))
 pss_nil)
 (pss_one (ps_ret (pe_and (pe_chain op_le op_le pe_int (pe_callB call_len_str (by rfl) T.len PySem.boot_len (pa_cons (pv 0) pa_nil)) (pe_glob (v := .int 8) (by rfl) T.g_LONGEST_NAME.choose_spec ⟨_, rfl⟩)) (pe_one (pe_callB (cr_all rfl) (by rfl) T.all (by decide +kernel) (pa_cons (pe_lc (own := [("sign", 1)]) (g := gName 1) (by rfl) sc_is_name.nd (pi_str (pv 0)) (blkOk_by (N := N_is_name) (sc := defScope s_is_name) (by decide +kernel)) (fun _ _ _ _ _ => pg_name (i := 1) sc_is_name.nd rfl (Or.inl rfl)) (fun _ _ _ _ _ => pts_nil) (fun _ _ _ _ _ => (pe_cmpR op_in_sign (pv 1) (pe_glob (v := .str "abcdefghijklmnopqrstuvwxyz") (by rfl) T.g_LETTERS.choose_spec ⟨_, rfl⟩) (by rfl)))) pa_nil))))))), ?_⟩
    refine ⟨_, rfl, _, _, .type "str", _, true, rfl, .ty _, .base (.str _), kit_ty (by decide +kernel), _, rfl, iteF ?_⟩
    refine ⟨_, rfl, rfl, _, rfl, ite2 (fun q => absurd (of_decide_eq_true q) (fun q => N.noclock (V.str.inj q))) (fun _ => ?_)⟩
    have l8 := N.most
    have l1 := N.pos
    have hsz : z.length ≤ sizeLine := Nat.le_trans l8 (by decide)
    refine ⟨_, rfl, z, rfl, hsz, _, _, rfl, rfl, _, rfl, ite2 (fun _ => ?_) (fun q => (q (decide_eq_true (by omega))).elim)⟩
    refine ⟨_, _, rfl, rfl, _, rfl, ite2 (fun _ => ?_) (fun q => (q (decide_eq_true (by omega))).elim)⟩
    refine ⟨_, rfl, z, rfl, fun D hD => lc_it walk_str (fun i H' => Same H H' ∧ H' D = some (.lst ((List.replicate i true).map V.bl))) ⟨Same.new hD, upd_same⟩ (fun _ _ _ _ => trivial) ?_ (fun H' q => ?_)⟩
    · rintro i x H' H'' hi ⟨s1, hD'⟩ ⟨rfl, c, hc, rfl⟩
      have hm : c ∈ z.cps.toList := by
        have := Array.mem_of_getElem? hc
        exact Array.mem_toList_iff.mpr this
      have e1 : decide (c ∈ letters.cps.toList) = true := decide_eq_true (N.low c hm)
      refine ⟨rfl, _, rfl, c, letters, rfl, rfl, _, hD', by rw [List.length_map, List.length_replicate]; exact Nat.lt_of_lt_of_le hi hsz, ?_, ?_⟩
      · exact fun b u e => by rw [upd_ne (ne_of_none e hD)]; exact s1 _ _ e
      · rw [upd_same, e1, List.replicate_succ', List.map_append]; rfl
    · refine ⟨D, _, rfl, SqL.of q.2, ?_⟩
      rw [all_true]
      exact k _ q.1
def Rd1 (H : Hp) (d : Addr) (kvs : List (Key × V)) : Prop := Rd H d (.dK kvs)
theorem rdUp {H H' : Hp} {d : Addr} {u : HO} (h : Rd H d u) (s : Same H H') : Rd H' d u := h.elim (fun q => .inl (s _ _ q)) (fun ⟨o, q⟩ => .inr ⟨o, s _ _ q⟩)
def spIsDish : Sp := fun vs H Q _ => ∃ (s : Str) (dd : Addr) (kvs : List (Key × V)), vs = [.str s, .ref dd] ∧ Rd H dd (.dK kvs) ∧ Q (.bl (valV kvs (.inr s)).isSome) H
theorem ok_isdish (T : Txt K mg A) : FnOk P w K mg base CX0 1 A.a_is_dish A.d_is_dish P_is_dish spIsDish := by
  refine T.f_is_dish.ok sc_is_dish (fun vs H Q E h => ?_) (fun cdv A' outer s H vs Q E hr h => ?_)
  · obtain ⟨s, dd, kvs, rfl, _⟩ := h
    rfl
  · obtain ⟨z, dd, kvs, rfl, hd, k⟩ := h
    refine ⟨_, (pss_one (ps_ret (pe_and (pe_callB call_isi (by rfl) T.isinstance (by decide +kernel) (pa_cons (pv 0) (pa_cons (pe_bltn (v := .ty "str") (u := .type "str") (by rfl) T.str (by decide +kernel) rfl) pa_nil))) (pe_one (pe_cmp (pc_din (hu_of hr) (pv 0) (pv 1)) rfl))))), ?_⟩
    exact ⟨_, rfl, _, _, .type "str", _, true, rfl, .ty _, .base (.str _), kit_ty (by decide +kernel), _, rfl, iteT ⟨_, rfl, _, rfl, dd, _, rfl, .inl ⟨kvs, .inr z, hd, rfl, rfl⟩, k⟩⟩
/-- bounds (least, most) in a tuple -/
def spBounds (K : PySem.W.Frag) : Sp := fun vs H Q _ => ∃ (a : Addr) (l m : Int), vs = [.ref a] ∧ SqT K H a [.int l, .int m] ∧ 1 ≤ l ∧ l ≤ m ∧ ∀ H', Same H H' → Q (.bl true) H'
theorem ok_bounds (T : Txt K mg A) : FnOk P w K mg base CX0 2 A.a_is_bounds A.d_is_bounds P_is_bounds (spBounds K) := by
  have G_is_list : FnOk P w K mg base CX0 1 A.a_is_list A.d_is_list P_is_list (spIsList K) := ok_islist T
  have G_is_integer : FnOk P w K mg base CX0 1 A.a_is_integer A.d_is_integer P_is_integer (spIsInt K) := ok_isint T
  refine T.f_is_bounds.ok sc_is_bounds (fun vs H Q E h => ?_) (fun cdv A' outer s H vs Q E hr h => ?_)
  · obtain ⟨a, l, m, rfl, _⟩ := h
    rfl
  · obtain ⟨a, l, m, rfl, ha, h1, h2, k⟩ := h
    refine ⟨_, (pss_cons (ps_if (PW.pt (pw_or (pt_not (pt_val (pe_call G_is_list (hr.mono (by omega)) (by rfl) T.g_is_list T.f_is_list.kp T.b_is_list .nil pass0 (pa_cons (pv 0) pa_nil)))) (pw_or1 (pt_cmpR op_ne (pe_callB call_len_seq (by rfl) T.len PySem.boot_len (pa_cons (pv 0) pa_nil)) pe_int (nomark _)))))
 (pss_one (ps_ret pe_bl))
 pss_nil)
 (pss_cons (ps_asg (pv 0) (pg_tup (by rfl) (pgs_cons (pg_name (i := 1) sc_is_bounds.nd rfl (Or.inl rfl)) (pgs_cons (pg_name (i := 2) sc_is_bounds.nd rfl (Or.inl rfl)) pgs_nil))))
 (pss_one (ps_ret (pe_and (pe_call G_is_integer (hr.mono (by omega)) (by rfl) T.g_is_integer T.f_is_integer.kp T.b_is_integer .nil pass0 (pa_cons (pv 1) pa_nil)) (pe_and (pe_call G_is_integer (hr.mono (by omega)) (by rfl) T.g_is_integer T.f_is_integer.kp T.b_is_integer .nil pass0 (pa_cons (pv 2) pa_nil)) (pe_one (pe_chain op_le op_le pe_int (pv 1) (pv 2))))))))), ?_⟩
    refine ⟨_, rfl, .ref a, .tuple [.int l, .int m], rfl, .tup ha (.cons (.int l) (.cons (.int m) .nil)), fun H1 s1 => ⟨_, rfl, iteF ?_⟩⟩
    have ha1 := stUp ha s1
    refine ⟨_, rfl, a, _, rfl, .inr ha1, rfl, _, rfl, iteF ?_⟩
    refine ⟨_, rfl, a, _, rfl, ha1, rfl, _, _, rfl, _, _, rfl, rfl, ?_⟩
    refine ⟨_, rfl, .int l, .int l, rfl, .int l, _, rfl, iteT ?_⟩
    refine ⟨_, rfl, .int m, .int m, rfl, .int m, _, rfl, iteT ?_⟩
    refine ⟨_, rfl, _, _, rfl, rfl, _, rfl, ite2 (fun _ => ?_) (fun q => (q (decide_eq_true h1)).elim)⟩
    refine ⟨_, rfl, _, _, rfl, rfl, ?_⟩
    show Q (.bl (decide (l ≤ m))) H1
    rw [decide_eq_true h2]
    exact k _ s1
inductive Mom (kvs : List (Key × V)) : PyData → Prop
  | clock : Mom kvs (.str "clock")
  | edge {e n : Str} (he : e = "start" ∨ e = "done") (hn : (valV kvs (.inr n)).isSome = true) (ok : PyData.strOk n = true) : Mom kvs (.tuple [.str e, .str n])
inductive Wsh (kvs : List (Key × V)) : PyData → Prop
  | mk {a b : PyData} {m : Int} (ha : Mom kvs a) (hb : Mom kvs b) : Wsh kvs (.tuple [a, b, .int m])
def spMoment (K : PySem.W.Frag) : Sp := fun vs H Q _ => ∃ (x : V) (dd : Addr) (d : PyData) (kvs : List (Key × V)), vs = [x, .ref dd] ∧ Dp K H x d ∧ Mom kvs d ∧ Rd H dd (.dK kvs) ∧ ∀ H', Same H H' → Q (.bl true) H'
def spWish (K : PySem.W.Frag) : Sp := fun vs H Q _ => ∃ (x : V) (dd : Addr) (d : PyData) (kvs : List (Key × V)), vs = [x, .ref dd] ∧ Dp K H x d ∧ Wsh kvs d ∧ Rd H dd (.dK kvs) ∧ ∀ H', Same H H' → Q (.bl true) H'
def spAsM (K : PySem.W.Frag) : Sp := fun vs H Q _ => ∃ (x : V) (d : PyData) (kvs : List (Key × V)), vs = [x] ∧ Dp K H x d ∧ Mom kvs d ∧ Q x H
def spAsW (K : PySem.W.Frag) : Sp := fun vs H Q _ => ∃ (x : V) (d : PyData) (kvs : List (Key × V)), vs = [x] ∧ Dp K H x d ∧ Wsh kvs d ∧ ∀ p H', H p = none → Same H H' → Dp K H' (.ref p) d → Q (.ref p) H'
theorem ok_moment (T : Txt K mg A) : FnOk P w K mg base CX0 2 A.a_is_moment A.d_is_moment P_is_moment (spMoment K) := by
  have G_is_list : FnOk P w K mg base CX0 1 A.a_is_list A.d_is_list P_is_list (spIsList K) := ok_islist T
  have G_is_dish : FnOk P w K mg base CX0 1 A.a_is_dish A.d_is_dish P_is_dish spIsDish := ok_isdish T
  refine T.f_is_moment.ok sc_is_moment (fun vs H Q E h => ?_) (fun cdv A' outer s H vs Q E hr h => ?_)
  · obtain ⟨x, dd, d, kvs, rfl, _⟩ := h
    rfl
  · obtain ⟨x, dd, d, kvs, rfl, hx, hm, hd, k⟩ := h
    refine ⟨_, (pss_cons (ps_if (pt_not (pt_val (pe_call G_is_list (hr.mono (by omega)) (by rfl) T.g_is_list T.f_is_list.kp T.b_is_list .nil pass0 (pa_cons (pv 0) pa_nil))))
 (pss_one (ps_ret (pe_cmpR (op_eqD hr.units) (pv 0) (pe_glob (v := .str "clock") (by rfl) T.g_CLOCK.choose_spec ⟨_, rfl⟩) (nomark _))))
 pss_nil)
 (pss_one (ps_ret (pe_and (pe_cmpR op_eq (pe_callB call_len_seq (by rfl) T.len PySem.boot_len (pa_cons (pv 0) pa_nil)) pe_int (nomark _)) (pe_and (pe_cmpR op_in_seq (pe_ix ix_tup (pv 0) pe_int (fun _ _ => rfl)) (pe_glob (v := .ref A.a_EDGES) (by rfl) T.g_EDGES rfl) (by rfl)) (pe_one (pe_call G_is_dish (hr.mono (by omega)) (by rfl) T.g_is_dish T.f_is_dish.kp T.b_is_dish .nil pass0 (pa_cons (pe_ix ix_tup (pv 0) pe_int (fun _ _ => rfl)) (pa_cons (pv 1) pa_nil))))))))), ?_⟩
    cases hm with
    | clock =>
      cases hx
      refine ⟨_, rfl, _, _, rfl, .str _, fun H1 s1 => ⟨_, rfl, iteT ?_⟩⟩
      exact ⟨_, rfl, _, _, .str _, .str _, by decide +kernel, by decide +kernel, k _ s1⟩
    | @edge e n he hn ok =>
      cases hx with
      | tup hq hA =>
        cases hA with
        | cons h1 hA =>
          cases h1
          cases hA with
          | cons h2 hA =>
            cases h2
            cases hA
            refine ⟨_, rfl, _, _, rfl, .tup hq (.cons (.str e) (.cons (.str n) .nil)), fun H1 s1 => ⟨_, rfl, iteF ?_⟩⟩
            have hq1 := stUp hq s1
            refine ⟨_, rfl, _, _, rfl, .inr hq1, rfl, _, rfl, iteT ?_⟩
            have hE : SqT K H1 A.a_EDGES [.str "start", .str "done"] := stUp T.t_EDGES (fun _ _ z => nomatch z)
            refine ⟨_, rfl, _, _, _, _, rfl, rfl, hq1, rfl, _, _, rfl, .inr hE, rfl, rfl, _, rfl, ite2 (fun _ => ?_) (fun z => (z ?_).elim)⟩
            · refine ⟨_, rfl, _, _, _, _, rfl, rfl, hq1, rfl, _, rfl, n, dd, kvs, rfl, rdUp hd s1, ?_⟩
              rw [hn]
              exact k _ s1
            · rcases he with q | q <;> (subst q; decide +kernel)
theorem ok_wish (T : Txt K mg A) : FnOk P w K mg base CX0 3 A.a_is_wish A.d_is_wish P_is_wish (spWish K) := by
  have G_is_list : FnOk P w K mg base CX0 1 A.a_is_list A.d_is_list P_is_list (spIsList K) := ok_islist T
  have G_is_integer : FnOk P w K mg base CX0 1 A.a_is_integer A.d_is_integer P_is_integer (spIsInt K) := ok_isint T
  have G_is_moment : FnOk P w K mg base CX0 2 A.a_is_moment A.d_is_moment P_is_moment (spMoment K) := ok_moment T
  refine T.f_is_wish.ok sc_is_wish (fun vs H Q E h => ?_) (fun cdv A' outer s H vs Q E hr h => ?_)
  · obtain ⟨x, dd, d, kvs, rfl, _⟩ := h
    rfl
  · obtain ⟨x, dd, d, kvs, rfl, hx, hm, hd, k⟩ := h
    refine ⟨_, (pss_cons (ps_if (PW.pt (pw_or (pt_not (pt_val (pe_call G_is_list (hr.mono (by omega)) (by rfl) T.g_is_list T.f_is_list.kp T.b_is_list .nil pass0 (pa_cons (pv 0) pa_nil)))) (pw_or1 (pt_cmpR op_ne (pe_callB call_len_seq (by rfl) T.len PySem.boot_len (pa_cons (pv 0) pa_nil)) pe_int (nomark _)))))
 (pss_one (ps_ret pe_bl))
 pss_nil)
 (pss_cons (ps_asg (pv 0) (pg_tup (by rfl) (pgs_cons (pg_name (i := 2) sc_is_wish.nd rfl (Or.inl rfl)) (pgs_cons (pg_name (i := 3) sc_is_wish.nd rfl (Or.inl rfl)) (pgs_cons (pg_name (i := 4) sc_is_wish.nd rfl (Or.inl rfl)) pgs_nil)))))
 (pss_one (ps_ret (pe_and (pe_call G_is_moment (hr.mono (by omega)) (by rfl) T.g_is_moment T.f_is_moment.kp T.b_is_moment .nil pass0 (pa_cons (pv 2) (pa_cons (pv 1) pa_nil))) (pe_and (pe_call G_is_moment (hr.mono (by omega)) (by rfl) T.g_is_moment T.f_is_moment.kp T.b_is_moment .nil pass0 (pa_cons (pv 3) (pa_cons (pv 1) pa_nil))) (pe_one (pe_call G_is_integer (hr.mono (by omega)) (by rfl) T.g_is_integer T.f_is_integer.kp T.b_is_integer .nil pass0 (pa_cons (pv 4) pa_nil))))))))), ?_⟩
    cases hm with
    | @mk a b m ha hb =>
      cases id hx with
      | tup hq hA =>
        cases hA with
        | @cons v1 _ _ _ h1 hA =>
          cases hA with
          | @cons v2 _ _ _ h2 hA =>
            cases hA with
            | cons h3 hA =>
              cases h3
              cases hA
              refine ⟨_, rfl, _, _, rfl, hx, fun H1 s1 => ⟨_, rfl, iteF ?_⟩⟩
              have hq1 := stUp hq s1
              refine ⟨_, rfl, _, _, rfl, .inr hq1, rfl, _, rfl, iteF ?_⟩
              refine ⟨_, rfl, _, _, rfl, hq1, rfl, _, _, rfl, _, _, rfl, _, _, rfl, rfl, ?_⟩
              refine ⟨_, rfl, _, rfl, v1, dd, a, kvs, rfl, dpSame s1 h1, ha, rdUp hd s1, fun H2 s2 => ⟨_, rfl, iteT ?_⟩⟩
              refine ⟨_, rfl, _, rfl, v2, dd, b, kvs, rfl, dpSame (s1.trans s2) h2, hb, rdUp hd (s1.trans s2), fun H3 s3 => ⟨_, rfl, iteT ?_⟩⟩
              exact ⟨_, rfl, .int m, .int m, rfl, .int m, k _ ((s1.trans s2).trans s3)⟩
theorem ok_asm (T : Txt K mg A) : FnOk P w K mg base CX0 1 A.a_as_moment A.d_as_moment P_as_moment (spAsM K) := by
  refine T.f_as_moment.ok sc_as_moment (fun vs H Q E h => ?_) (fun cdv A' outer s H vs Q E hr h => ?_)
  · obtain ⟨x, d, kvs, rfl, _⟩ := h
    rfl
  · obtain ⟨x, d, kvs, rfl, hx, hm, k⟩ := h
    refine ⟨_, (pss_one (ps_ret (pe_ifExp (pt_cmpR (op_eqD hr.units) (pv 0) (pe_glob (v := .str "clock") (by rfl) T.g_CLOCK.choose_spec ⟨_, rfl⟩) (nomark _)) (pe_glob (v := .str "clock") (by rfl) T.g_CLOCK.choose_spec ⟨_, rfl⟩) (pe_callTy call_tuple_of (by rfl) T.tuple (by decide +kernel) (pa_cons (pv 0) pa_nil))))), ?_⟩
    cases hm with
    | clock =>
      cases hx
      exact ⟨_, rfl, _, _, .str _, .str _, by decide +kernel, by decide +kernel, _, rfl, iteT k⟩
    | @edge e n he hn ok =>
      have hsh : SeqAt.shaped (.tuple [.str e, .str n]) = true := by
        have he' : PyData.strOk e = true := by rcases he with q | q <;> (subst q; decide +kernel)
        simp [SeqAt.shaped, PyData.canLay0, PyData.canLayAll0, PyData.depth, PyData.depthAll, he', ok]
      cases id hx with
      | tup hq hA =>
        exact ⟨_, rfl, _, _, hx, .str _, hsh, by decide +kernel, _, rfl, iteF ⟨_, rfl, _, _, rfl, .inr ⟨hq, k⟩⟩⟩
theorem ok_asw (T : Txt K mg A) : FnOk P w K mg base CX0 2 A.a_as_wish A.d_as_wish P_as_wish (spAsW K) := by
  have G_as_moment : FnOk P w K mg base CX0 1 A.a_as_moment A.d_as_moment P_as_moment (spAsM K) := ok_asm T
  refine T.f_as_wish.ok sc_as_wish (fun vs H Q E h => ?_) (fun cdv A' outer s H vs Q E hr h => ?_)
  · obtain ⟨x, d, kvs, rfl, _⟩ := h
    rfl
  · obtain ⟨x, d, kvs, rfl, hx, hm, k⟩ := h
    refine ⟨_, (pss_cons (ps_asg (pv 0) (pg_tup (by rfl) (pgs_cons (pg_name (i := 1) sc_as_wish.nd rfl (Or.inl rfl)) (pgs_cons (pg_name (i := 2) sc_as_wish.nd rfl (Or.inl rfl)) (pgs_cons (pg_name (i := 3) sc_as_wish.nd rfl (Or.inl rfl)) pgs_nil)))))
 (pss_one (ps_ret (pe_tup (pa_cons (pe_call G_as_moment (hr.mono (by omega)) (by rfl) T.g_as_moment T.f_as_moment.kp T.b_as_moment .nil pass0 (pa_cons (pv 1) pa_nil)) (pa_cons (pe_call G_as_moment (hr.mono (by omega)) (by rfl) T.g_as_moment T.f_as_moment.kp T.b_as_moment .nil pass0 (pa_cons (pv 2) pa_nil)) (pa_cons (pv 3) pa_nil))))))), ?_⟩
    cases hm with
    | @mk a b m ha hb =>
      cases id hx with
      | tup hq hA =>
        cases hA with
        | @cons v1 _ _ _ h1 hA =>
          cases hA with
          | @cons v2 _ _ _ h2 hA =>
            cases hA with
            | cons h3 hA =>
              cases h3
              cases hA
              refine ⟨_, rfl, _, _, rfl, hq, rfl, _, _, rfl, _, _, rfl, _, _, rfl, rfl, ?_⟩
              refine ⟨_, rfl, v1, a, kvs, rfl, h1, ha, _, rfl, v2, b, kvs, rfl, h2, hb, _, rfl, by show 3 ≤ sizeLine; decide, fun p hp => ?_⟩
              have s1 : Same H (upd H p (.tup [v1, v2, .int m])) := Same.new hp
              exact k p _ hp s1 (.tup (SqT.of upd_same) (.cons (dpSame s1 h1) (.cons (dpSame s1 h2) (.cons (.int m) .nil))))
theorem valV_at : ∀ {kvs : List (Key × V)} {i : Nat} {k : Key} {v : V}, (kvs.map (·.1)).Nodup → kvs[i]? = some (k, v) → valV kvs k = some v
  | p :: r, 0, k, v, _, h => by
    have e : p = (k, v) := Option.some.inj h
    rw [valV_pos (by rw [e]), e]
  | p :: r, i + 1, k, v, hN, h => by
    have hr : r[i]? = some (k, v) := h
    rw [List.map_cons, List.nodup_cons] at hN
    rw [valV_neg (fun e => hN.1 (by rw [e]; exact List.mem_map.mpr ⟨(k, v), List.mem_of_getElem? hr, rfl⟩))]
    exact valV_at hN.2 hr
  | [], i, k, v, _, h => by simp at h
/-- a dict of dishes: each key a name, each value a tuple of bounds -/
structure DOk (K : PySem.W.Frag) (H : Hp) (kvs : List (Key × V)) : Prop where
  nd : (kvs.map (·.1)).Nodup
  each : ∀ (i : Nat) (k : Key) (v : V), kvs[i]? = some (k, v) → ∃ (s : Str) (a : Addr) (l m : Int), k = .inr s ∧ Nm s ∧ PyData.strOk s = true ∧ v = .ref a ∧ SqT K H a [.int l, .int m] ∧ 1 ≤ l ∧ l ≤ m
theorem DOk.up {H H' : Hp} {kvs : List (Key × V)} (h : DOk K H kvs) (s : Same H H') : DOk K H' kvs := ⟨h.nd, fun i k v e => by
  obtain ⟨z, a, l, m, e1, e2, e0, e3, e4, e5⟩ := h.each i k v e
  exact ⟨z, a, l, m, e1, e2, e0, e3, stUp e4 s, e5⟩⟩
def spChkD (K : PySem.W.Frag) : Sp := fun vs H Q _ => ∃ (dd : Addr) (kvs : List (Key × V)), vs = [.ref dd] ∧ H dd = some (.dK kvs) ∧ DOk K (er H dd) kvs ∧ ∀ H', Same H H' → Q .non H'
def spChkW (K : PySem.W.Frag) : Sp := fun vs H Q _ => ∃ (a dd : Addr) (xs : List V) (ds : List PyData) (kvs : List (Key × V)), vs = [.ref a, .ref dd] ∧ SqX K H a xs ∧ DpAll K H xs ds ∧ (∀ d ∈ ds, Wsh kvs d) ∧ Rd H dd (.dK kvs) ∧ ∀ H', Same H H' → Q .non H'
def spChkS (K : PySem.W.Frag) : Sp := fun vs H Q _ => ∃ (a dd : Addr), vs = [.ref a, .ref dd] ∧ SqX K H a [] ∧ ∀ H', Same H H' → Q .non H'
theorem dpX {H : Hp} {a : Addr} {xs : List V} {ds : List PyData} (h : SqX K H a xs) (hA : DpAll K H xs ds) : ∃ d, Dp K H (.ref a) d ∧ isL d = true :=
  h.elim (fun q => ⟨_, .lst q hA, rfl⟩) (fun q => ⟨_, .tup q hA, rfl⟩)
theorem ok_chkd (T : Txt K mg A) : FnOk P w K mg base CX0 3 A.a_check_dishes A.d_check_dishes P_check_dishes (spChkD K) := by
  have G_is_name : FnOk P w K mg base CX0 1 A.a_is_name A.d_is_name P_is_name spIsName := ok_isname T
  have G_is_bounds : FnOk P w K mg base CX0 2 A.a_is_bounds A.d_is_bounds P_is_bounds (spBounds K) := ok_bounds T
  refine T.f_check_dishes.ok sc_check_dishes (fun vs H Q E h => ?_) (fun cdv A' outer s H vs Q E hr h => ?_)
  · obtain ⟨dd, kvs, rfl, _⟩ := h
    rfl
  · obtain ⟨dd, kvs, rfl, hd, hO, k⟩ := h
    refine ⟨_, (pss_one (ps_lock (ps_for PassesOwn.never rfl (pi_keys (pv 0)) (pg_name (i := 1) sc_check_dishes.nd rfl (Or.inl rfl))
 (pss_one (ps_if (PW.pt (pw_or (pt_not (pt_val (pe_call G_is_name (hr.mono (by omega)) (by rfl) T.g_is_name T.f_is_name.kp T.b_is_name .nil pass0 (pa_cons (pv 1) pa_nil)))) (pw_or1 (pt_not (pt_val (pe_call G_is_bounds (hr.mono (by omega)) (by rfl) T.g_is_bounds T.f_is_bounds.kp T.b_is_bounds .nil pass0 (pa_cons (pe_dget (hu_of hr) (pv 0) (pv 1) (fun _ _ => rfl)) pa_nil)))))))
 (pss_one ps_never)
 pss_nil))))), ?_⟩
    refine ⟨dd, _, hd, trivial, fun od => ?_⟩
    have sE : Same (er H dd) (upd H dd (.frz od (.dK kvs))) := fun b u e => by rw [upd_ne (er_some e).1]; exact (er_some e).2
    refine ⟨_, rfl, dd, od, rfl, .inl ⟨kvs, upd_same, for_it walk_keys (fun i σ' H' => ∃ x, σ' = [some (.ref dd), x] ∧ Same (upd H dd (.frz od (.dK kvs))) H') ⟨none, rfl, Same.refl _⟩ (fun i σ' H' _ ⟨_, _, s⟩ => s _ _ upd_same) ?_ ?_⟩⟩
    · rintro i x σ' H' H'' hi ⟨y, rfl, s1⟩ ⟨rfl, key, v, hk, rfl⟩
      obtain ⟨z, a, l, m, rfl, hN, _, rfl, ha, hb1, hb2⟩ := hO.each i _ _ hk
      refine ⟨_, rfl, z, rfl, hN, fun H2 s2 => ⟨_, rfl, iteF ?_⟩⟩
      have hd2 : H2 dd = some (.frz od (.dK kvs)) := s2 _ _ (s1 _ _ upd_same)
      have ha2 := stUp ha (sE.trans (s1.trans s2))
      refine ⟨_, rfl, _, rfl, dd, .ref a, rfl, .inl ⟨kvs, .inr z, .inr ⟨od, hd2⟩, rfl, (valV_at hO.nd hk).symm⟩, a, l, m, rfl, ha2, hb1, hb2, fun H3 s3 => ⟨_, rfl, iteF ?_⟩⟩
      exact ⟨_, rfl, (s1.trans s2).trans s3⟩
    · rintro σ' H' ⟨x, rfl, s1⟩
      refine ⟨s1 _ _ upd_same, k _ fun b u e => ?_⟩
      by_cases hb : b = dd
      · subst hb
        rw [hd] at e
        cases e
        exact upd_same
      · rw [upd_ne hb]
        exact s1 _ _ (by rw [upd_ne hb]; exact e)
theorem ok_chkw (T : Txt K mg A) : FnOk P w K mg base CX0 4 A.a_check_wishes A.d_check_wishes P_check_wishes (spChkW K) := by
  have G_is_list : FnOk P w K mg base CX0 1 A.a_is_list A.d_is_list P_is_list (spIsList K) := ok_islist T
  have G_is_wish : FnOk P w K mg base CX0 3 A.a_is_wish A.d_is_wish P_is_wish (spWish K) := ok_wish T
  refine T.f_check_wishes.ok sc_check_wishes (fun vs H Q E h => ?_) (fun cdv A' outer s H vs Q E hr h => ?_)
  · obtain ⟨a, dd, xs, ds, kvs, rfl, _⟩ := h
    rfl
  · obtain ⟨a, dd, xs, ds, kvs, rfl, ha, hA, hW, hd, k⟩ := h
    refine ⟨_, (pss_cons (ps_if (pt_not (pt_val (pe_call G_is_list (hr.mono (by omega)) (by rfl) T.g_is_list T.f_is_list.kp T.b_is_list .nil pass0 (pa_cons (pv 0) pa_nil))))
 (pss_one ps_never)
 pss_nil)
 (pss_one (ps_for PassesOwn.never rfl (EnT.pi_or (pi_enum (by rfl) T.enumerate (pa_cons (pv 0) pa_nil)) (EnT.pi_enumT (by rfl) T.enumerate (pa_cons (pv 0) pa_nil))) (pg_tup (by rfl) (pgs_cons (pg_name (i := 2) sc_check_wishes.nd rfl (Or.inl rfl)) (pgs_cons (pg_name (i := 3) sc_check_wishes.nd rfl (Or.inl rfl)) pgs_nil)))
 (pss_one (ps_if (pt_not (pt_val (pe_call G_is_wish (hr.mono (by omega)) (by rfl) T.g_is_wish T.f_is_wish.kp T.b_is_wish .nil pass0 (pa_cons (pv 3) (pa_cons (pv 1) pa_nil)))))
 (pss_one ps_never)
 pss_nil))))), ?_⟩
    obtain ⟨d, hD, hL⟩ := dpX ha hA
    refine ⟨_, rfl, _, d, rfl, hD, fun H1 s1 => ⟨_, rfl, ?_⟩⟩
    rw [hL]
    refine iteF ?_
    refine enum_or ha s1 rfl fun J G wk hG => for_it wk (fun i σ' H' => ∃ x y, σ' = [some (.ref a), some (.ref dd), x, y] ∧ Same H H') ⟨none, none, rfl, s1⟩ (fun i σ' H' _ ⟨_, _, _, s⟩ => hG H' s) ?_ ?_
    · rintro i x σ' H' H'' hi ⟨_, _, rfl, s2⟩ ⟨Tt, u, v, rfl, hT, rfl, hu, hv⟩
      have eu : u = .int (i : Nat) := (Option.some.inj hu).symm
      subst eu
      obtain ⟨d', hd1, hd2⟩ := dpGet hA hv
      have s3 : Same H (upd H' Tt (.tup [.int (i : Nat), v])) := s2.trans (Same.new hT)
      refine ⟨Tt, _, rfl, SqT.of upd_same, rfl, _, _, rfl, _, _, rfl, rfl, ?_⟩
      refine ⟨_, rfl, _, rfl, v, dd, d', kvs, rfl, dpSame s3 hd2, hW d' (List.mem_of_getElem? hd1), rdUp hd s3, fun H4 s4 => ⟨_, rfl, iteF ?_⟩⟩
      exact ⟨_, _, rfl, s3.trans s4⟩
    · rintro σ' H' ⟨_, _, rfl, s2⟩
      exact k _ s2
theorem ok_chks (T : Txt K mg A) : FnOk P w K mg base CX0 2 A.a_check_stations A.d_check_stations P_check_stations (spChkS K) := by
  have G_is_list : FnOk P w K mg base CX0 1 A.a_is_list A.d_is_list P_is_list (spIsList K) := ok_islist T
  refine T.f_check_stations.ok sc_check_stations (fun vs H Q E h => ?_) (fun cdv A' outer s H vs Q E hr h => ?_)
  · obtain ⟨a, dd, rfl, _⟩ := h
    rfl
  · obtain ⟨a, dd, rfl, ha, k⟩ := h
    refine ⟨_, (pss_cons (ps_if (pt_not (pt_val (pe_call G_is_list (hr.mono (by omega)) (by rfl) T.g_is_list T.f_is_list.kp T.b_is_list .nil pass0 (pa_cons (pv 0) pa_nil))))
 (pss_one ps_never)
 pss_nil)
 (pss_one (ps_for PassesOwn.never rfl (EnT.pi_or (pi_enum (by rfl) T.enumerate (pa_cons (pv 0) pa_nil)) (EnT.pi_enumT (by rfl) T.enumerate (pa_cons (pv 0) pa_nil))) (pg_tup (by rfl) (pgs_cons (pg_name (i := 2) sc_check_stations.nd rfl (Or.inl rfl)) (pgs_cons (pg_name (i := 3) sc_check_stations.nd rfl (Or.inl rfl)) pgs_nil)))
 pss_never))), ?_⟩
    obtain ⟨d, hD, hL⟩ := dpX ha .nil
    refine ⟨_, rfl, _, d, rfl, hD, fun H1 s1 => ⟨_, rfl, ?_⟩⟩
    rw [hL]
    refine iteF ?_
    refine enum_or ha s1 rfl fun J G wk hG => for_it wk (fun i σ' H' => Same H H') s1 (fun i σ' H' _ s => hG H' s) ?_ ?_
    · rintro i x σ' H' H'' hi
      exact absurd hi (Nat.not_lt_zero _)
    · exact fun σ' H' s2 => k _ s2
/-- a dict that a comprehension fills, over any walk -/
theorem fillD {J : It} {n : Nat} {G : Hp → Prop} {Y : Nat → Hp → V → Hp → Prop} (wk : Walk J n G Y) {g : TG} {tt : TT} {tk tv : TE} {vs : List Nat} {σ : St} {H1 : Hp} {D : Addr} {Qd : Hp → Prop} (I : Nat → Hp → Prop)
    (i0 : I 0 (upd H1 D (.dK []))) (iG : ∀ i H, i ≤ n → I i H → G H)
    (step : ∀ i x H H', i < n → I i H → Y i H x H' → g x (wipe σ vs) H' fun σ2 H2 => wipe σ2 vs = wipe σ vs ∧ tt σ2 H2 fun b H3 =>
      if b = true then tk σ2 H3 fun y H4 => tv σ2 H4 fun z H5 => ∃ kvs k, y = kV k ∧ H5 D = some (.dK kvs) ∧ kvs.length < sizeLine ∧ I (i + 1) (upd H5 D (.dK (putK kvs k z))) else I (i + 1) H3)
    (last : ∀ H, I n H → Qd H) :
    ∃ V : Nat → Nat → Hp → Prop, (∃ n, V 0 n (upd H1 D (.dK []))) ∧ ∀ i n H, V i n H →
      (J.stop i H ∧ Qd H) ∨ (J.go i H ∧ ∃ N : Hp → Prop, (∀ H', N H' → ∃ n', n' < n ∧ V (i + 1) n' H') ∧ ∀ x H', J.yld i H x H' → g x (wipe σ vs) H' fun τ H2 => wipe τ vs = wipe σ vs ∧
        tt τ H2 fun b H3 => if b = true then tk τ H3 fun y H4 => tv τ H4 fun z H5 => ∃ kvs k, y = kV k ∧ H5 D = some (.dK kvs) ∧ kvs.length < sizeLine ∧ N (upd H5 D (.dK (putK kvs k z))) else N H3) := by
  refine ⟨fun i m H => m + i = n ∧ I i H, ⟨n, rfl, i0⟩, fun i m H ⟨e, h⟩ => ?_⟩
  have g' := iG i H (by omega) h
  rcases Nat.lt_or_ge i n with lt | ge
  · exact .inr ⟨wk.goes i H lt g', I (i + 1), fun H' h' => ⟨m - 1, by omega, by omega, h'⟩, fun x H' y => step i x H H' lt h (wk.yields i H x H' lt g' y)⟩
  · obtain rfl : i = n := by omega
    exact .inl ⟨wk.stops H g', last H h⟩
def rTupOf (K : PySem.W.Frag) : List V → Hp → VK → Prop := fun us H Q => ∃ b zs, us = [.ref b] ∧ ((SqL K H b zs ∧ ∀ l, H l = none → Q (.ref l) (upd H l (.tup zs))) ∨ (SqT K H b zs ∧ Q (.ref b) H))
theorem tupOf {X : Cx} {K : PySem.W.Frag} (h : X.K = K) : CallR X (.type "tuple") (rTupOf K) := h ▸ call_tuple_of
theorem putF_len (f : Str) (v : V) : ∀ fs : List (Str × V), (putF f v fs).length ≤ fs.length + 1
  | [] => Nat.le_refl _
  | (g, x) :: r => by
    unfold putF
    by_cases e : g = f
    · rw [if_pos e]; exact Nat.le_succ _
    · rw [if_neg e]; exact Nat.succ_le_succ (putF_len f v r)
/-- what is no tuple -/
def NoTup (u : HO) : Prop := (∀ zs, u ≠ .tup zs) ∧ ∀ o zs, u ≠ .frz o (.tup zs)
theorem tupEr {H : Hp} {D a : Addr} {u : HO} {xs : List V} (hD : H D = some u) (hu : NoTup u) (h : SqT K H a xs) : SqT K (er H D) a xs := by
  rcases h with (h | ⟨o, h⟩) | h
  · exact .inl (.inl (er_of (fun e => by rw [e, hD] at h; exact hu.1 _ (Option.some.inj h)) h))
  · exact .inl (.inr ⟨o, er_of (fun e => by rw [e, hD] at h; exact hu.2 _ _ (Option.some.inj h)) h⟩)
  · exact .inr h
theorem momEr {H : Hp} {D : Addr} {u : HO} {v : V} {d : PyData} {kvs : List (Key × V)} (hD : H D = some u) (hu : NoTup u) (h : Dp K H v d) (m : Mom kvs d) : Dp K (er H D) v d := by
  cases m with
  | clock => cases h; exact .str _
  | edge he hn ok =>
    cases h with
    | tup hq hA =>
      cases hA with
      | cons h1 hA =>
        cases h1
        cases hA with
        | cons h2 hA =>
          cases h2
          cases hA
          exact .tup (tupEr hD hu hq) (.cons (.str _) (.cons (.str _) .nil))
theorem wshEr {H : Hp} {D : Addr} {u : HO} {v : V} {d : PyData} {kvs : List (Key × V)} (hD : H D = some u) (hu : NoTup u) (h : Dp K H v d) (m : Wsh kvs d) : Dp K (er H D) v d := by
  cases m with
  | mk ha hb =>
    cases h with
    | tup hq hA =>
      cases hA with
      | cons h1 hA =>
        cases hA with
        | cons h2 hA =>
          cases hA with
          | cons h3 hA =>
            cases h3
            cases hA
            exact .tup (tupEr hD hu hq) (.cons (momEr hD hu h1 ha) (.cons (momEr hD hu h2 hb) (.cons (.int _) .nil)))
theorem wshAllEr {H : Hp} {D : Addr} {u : HO} {kvs : List (Key × V)} (hD : H D = some u) (hu : NoTup u) : ∀ {vs : List V} {ds : List PyData}, DpAll K H vs ds → (∀ d ∈ ds, Wsh kvs d) → DpAll K (er H D) vs ds
  | _, _, .nil, _ => .nil
  | _, _, .cons a b, m => .cons (wshEr hD hu a (m _ (List.mem_cons_self ..))) (wshAllEr hD hu b fun d hd => m d (List.mem_cons_of_mem _ hd))
theorem noTup_lst (xs : List V) : NoTup (.lst xs) := ⟨fun _ z => (nomatch z), fun _ _ z => (nomatch z)⟩
theorem noTup_ins (C dx : Addr) (fs : List (Str × V)) : NoTup (.ins C dx fs) := ⟨fun _ z => (nomatch z), fun _ _ z => (nomatch z)⟩
def spInit (K : PySem.W.Frag) (C : Addr) : Sp := fun vs H Q _ => ∃ (p dx dd a s0 : Addr) (kvs : List (Key × V)) (ks : List Str) (xs : List V) (ds : List PyData), vs = [.ref p, .ref dd, .ref a, .ref s0] ∧ H p = some (.ins C dx []) ∧
  H dd = some (.dK kvs) ∧ DOk K (er H dd) kvs ∧ kvs.map (·.1) = ks.map Sum.inr ∧ ks.length < 64 ∧ SqX K (er H p) a xs ∧ DpAll K (er H p) xs ds ∧ ds.length ≤ 1000 ∧ (∀ d ∈ ds, Wsh kvs d) ∧ SqX K (er H p) s0 [] ∧
  ∀ (H' : Hp) (fs : List (Str × V)) (wd : Addr) (ws : List V), H' p = some (.ins C dx fs) → fs.lookup ("wished" : Str) = some (.ref wd) → fs.lookup ("wishes" : Str) = none → SqT K H' wd ws → DpAll K H' ws ds → Same (er H p) (er H' p) → Q .non H'
theorem ok_init (T : Txt K mg A) : FnOk P w K mg base CX0 5 A.a_Meal___init__ A.d_Meal___init__ P_Meal___init__ (spInit K A.a_Meal) := by
  have G_check_dishes : FnOk P w K mg base CX0 3 A.a_check_dishes A.d_check_dishes P_check_dishes (spChkD K) := ok_chkd T
  have G_check_wishes : FnOk P w K mg base CX0 4 A.a_check_wishes A.d_check_wishes P_check_wishes (spChkW K) := ok_chkw T
  have G_check_stations : FnOk P w K mg base CX0 2 A.a_check_stations A.d_check_stations P_check_stations (spChkS K) := ok_chks T
  have G_as_wish : FnOk P w K mg base CX0 2 A.a_as_wish A.d_as_wish P_as_wish (spAsW K) := ok_asw T
  refine T.f_Meal___init__.ok sc_Meal___init__ (fun vs H Q E h => ?_) (fun cdv A' outer s H vs Q E hr h => ?_)
  · obtain ⟨p, dx, dd, a, s0, kvs, ks, xs, ds, rfl, _⟩ := h
    rfl
  · obtain ⟨p, dx, dd, a, s0, kvs, ks, xs, ds, rfl, hp, hd, hO, hks, hk64, ha, hA, hlen, hW, hs0, k⟩ := h
    refine ⟨_, PSs.nox (pss_cons (ps_expr (pe_call G_check_dishes (hr.mono (by omega)) (by rfl) T.g_check_dishes T.f_check_dishes.kp T.b_check_dishes .nil pass0 (pa_cons (pv 1) pa_nil)))
 (pss_cons (ps_expr (pe_call G_check_wishes (hr.mono (by omega)) (by rfl) T.g_check_wishes T.f_check_wishes.kp T.b_check_wishes .nil pass0 (pa_cons (pv 2) (pa_cons (pv 1) pa_nil))))
 (pss_cons (ps_expr (pe_call G_check_stations (hr.mono (by omega)) (by rfl) T.g_check_stations T.f_check_stations.kp T.b_check_stations .nil pass0 (pa_cons (pv 3) (pa_cons (pv 1) pa_nil))))
 (pss_cons (ps_fld (pv 0) (pe_dc (own := [("name", 4)]) (g := gName 4) (by rfl) sc_Meal___init__.nd (pi_list (pe_callB (call_sortedD rfl) (by rfl) T.sorted (by decide +kernel) (pa_cons (pv 1) pa_nil))) (blkOk_by (N := N_Meal___init__) (sc := defScope s_Meal___init__) (by decide +kernel)) (fun _ _ _ _ _ => pg_name (i := 4) sc_Meal___init__.nd rfl (Or.inl rfl)) (fun _ _ _ _ _ => pts_nil) (fun _ _ _ _ _ => (pv 4)) (fun _ _ _ _ _ => (pe_callTy (tupOf (K := K) rfl) (by rfl) T.tuple (by decide +kernel) (pa_cons (pe_dget (hu_of hr) (pv 1) (pv 4) (fun _ _ => rfl)) pa_nil)))) rfl)
 (pss_cons (ps_fld (pv 0) (pe_callTy call_tuple_of (by rfl) T.tuple (by decide +kernel) (pa_cons (pe_lc (own := [("wish", 5)]) (g := gName 5) (by rfl) sc_Meal___init__.nd (EnT.pi_or (pi_list (pv 2)) (pi_tup (pv 2))) (blkOk_by (N := N_Meal___init__) (sc := defScope s_Meal___init__) (by decide +kernel)) (fun _ _ _ _ _ => pg_name (i := 5) sc_Meal___init__.nd rfl (Or.inl rfl)) (fun _ _ _ _ _ => pts_nil) (fun _ _ _ _ _ => (pe_call G_as_wish (hr.mono (by omega)) (by rfl) T.g_as_wish T.f_as_wish.kp T.b_as_wish .nil pass0 (pa_cons (pv 5) pa_nil)))) pa_nil)) rfl)
 (pss_one (ps_fld (pv 0) (pe_callTy call_tuple_of (by rfl) T.tuple (by decide +kernel) (pa_cons (pe_lc (own := [("station", 6)]) (g := gName 6) (by rfl) sc_Meal___init__.nd (EnT.pi_or (pi_list (pv 3)) (pi_tup (pv 3))) (blkOk_by (N := N_Meal___init__) (sc := defScope s_Meal___init__) (by decide +kernel)) (fun _ _ _ _ _ => pg_name (i := 6) sc_Meal___init__.nd rfl (Or.inl rfl)) (fun _ _ _ _ _ => pts_nil) (fun _ _ _ _ _ => (pe_callTy (tupOf (K := K) rfl) (by rfl) T.tuple (by decide +kernel) (pa_cons (pv 6) pa_nil)))) pa_nil)) rfl))))))), ?_⟩
    have npd : dd ≠ p := ne_of hd hp (fun z => nomatch z)
    refine ⟨_, rfl, dd, kvs, rfl, hd, hO, fun H1 s1 => ?_⟩
    refine ⟨_, rfl, _, rfl, a, dd, xs, ds, kvs, rfl, sxUp ha ((er_same _ _).trans s1), dpAllSame ((er_same _ _).trans s1) hA, hW, .inl (s1 _ _ hd), fun H2 s2 => ?_⟩
    refine ⟨_, rfl, _, rfl, s0, dd, rfl, sxUp hs0 (((er_same _ _).trans s1).trans s2), fun H3 s3 => ?_⟩
    have S3 : Same H H3 := (s1.trans s2).trans s3
    have hd3 := S3 _ _ hd
    have hp3 := S3 _ _ hp
    -- self.bounds
    refine ⟨_, rfl, dd, kvs, ks, rfl, .inl hd3, hks, hk64, fun ys q hperm _ hq => ?_⟩
    refine ⟨q, rfl, ⟨_, SqL.of upd_same⟩, fun D hD => fillD walk_list (fun i H' => Same (upd H3 q (.lst (ys.map V.str))) H' ∧ ∃ kk, H' D = some (.dK kk) ∧ kk.length ≤ i) ⟨Same.new hD, [], upd_same, Nat.le_refl _⟩ (fun i H' _ h => SqL.of (h.1 _ _ upd_same)) ?_ (fun H4 h4 => ?_)⟩
    · rintro i x H' H'' hi ⟨s4, kk, hkk, hkl⟩ ⟨rfl, hx⟩
      obtain ⟨hi, rfl⟩ := str_at hx
      have hm : ys[i] ∈ ks := hperm.mem_iff.mp (List.getElem_mem hi)
      have hm2 : (Sum.inr ys[i] : Key) ∈ kvs.map (·.1) := by rw [hks]; exact List.mem_map.mpr ⟨_, hm, rfl⟩
      obtain ⟨⟨key, v⟩, hkv, ek⟩ := List.mem_map.mp hm2
      obtain ⟨j, hj, ej⟩ := List.getElem_of_mem hkv
      have hj2 : kvs[j]? = some (key, v) := by rw [List.getElem?_eq_getElem hj, ej]
      obtain ⟨z, b, l, m, e1, _, _, e2, e3, _⟩ := hO.each j key v hj2
      have ez : z = ys[i] := by
        have : (Sum.inr z : Key) = Sum.inr ys[i] := e1.symm.trans ek
        exact Sum.inr.inj this
      subst ez
      subst e1
      subst e2
      have S4 : Same H H'' := S3.trans ((Same.new hq).trans s4)
      have hyl : i < 64 := by have := hperm.length_eq; omega
      refine ⟨rfl, _, rfl, _, rfl, _, rfl, dd, .ref b, rfl, .inl ⟨kvs, .inr ys[i], .inl (S4 _ _ hd), rfl, (valV_at hO.nd hj2).symm⟩, b, _, rfl, .inr ⟨stUp e3 ((er_same _ _).trans S4), kk, .inr ys[i], rfl, hkk, ?_, ?_, ?_⟩⟩
      · exact Nat.lt_of_le_of_lt (show kk.length ≤ 64 by omega) (by decide)
      · exact fun c u e => by rw [upd_ne (ne_of_none e hD)]; exact s4 _ _ e
      · exact ⟨_, upd_same, by have := length_putK kk (.inr ys[i]) (.ref b); omega⟩
    · obtain ⟨s4, kk, hkk, _⟩ := h4
      have S4 : Same H H4 := S3.trans ((Same.new hq).trans s4)
      have hp4 := S4 _ _ hp
      refine ⟨_, rfl, p, A.a_Meal, dx, _, rfl, hp4, T.cl, T.nB, by decide, ?_⟩
      have E4 : Same (er H p) (er (upd H4 p (.ins A.a_Meal dx (putF "bounds" (.ref D) []))) p) := by rw [er_upd]; exact er_mono S4
      generalize hH5 : upd H4 p (.ins A.a_Meal dx (putF "bounds" (.ref D) [])) = H5 at E4 ⊢
      have hp5 : H5 p = some (.ins A.a_Meal dx (putF "bounds" (.ref D) [])) := by rw [← hH5]; exact upd_same
      have B5 : Same (er H p) H5 := E4.trans (er_same _ _)
      -- self.wished
      refine seq_or ha B5 rfl fun J G wk hG => fun D2 hD2 => lc_it wk (fun i H' => Grow K D2 H5 H' (ds.take i)) (Grow.start hD2) (fun i H' _ g => hG H' (B5.trans (g.same.trans (er_same _ _)))) ?_ (fun H6 g => ?_)
      · rintro i x H' H'' hi g ⟨rfl, hx⟩
        obtain ⟨d, hd1, hd2⟩ := dpGet hA hx
        obtain ⟨acc, hac, hAc⟩ := id g.ex
        have hal := dpLen hAc
        have hil : i < ds.length := (List.getElem?_eq_some_iff.mp hd1).1
        have B6 := B5.trans (g.same.trans (er_same _ _))
        refine ⟨rfl, _, rfl, x, d, kvs, rfl, dpSame B6 hd2, hW d (List.mem_of_getElem? hd1), fun r H7 _ s7 hr7 => ?_⟩
        refine ⟨acc, s7 _ _ hac, Nat.lt_of_le_of_lt (show acc.length ≤ 1000 by rw [hal, List.length_take]; omega) (by decide), ?_⟩
        have e1 : ds.take (i + 1) = ds.take i ++ [d] := by rw [List.take_succ, hd1]; rfl
        rw [e1]
        exact (g.up s7).app (s7 _ _ hac) (wshEr (s7 _ _ hac) (noTup_lst _) hr7 (hW d (List.mem_of_getElem? hd1)))
      · rw [dpLen hA, List.take_length] at g
        obtain ⟨acc, hac, hAc⟩ := id g.ex
        refine ⟨D2, _, rfl, .inl ⟨SqL.of hac, fun t ht => ?_⟩⟩
        have S6 : Same H5 (upd H6 t (.tup acc)) := (g.same.trans (er_same _ _)).trans (Same.new ht)
        have A6 : DpAll K (upd H6 t (.tup acc)) acc ds := dpAllSame ((er_same _ _).trans (Same.new ht)) hAc
        refine ⟨_, rfl, p, A.a_Meal, dx, _, rfl, S6 _ _ hp5, T.cl, T.nW, Nat.lt_of_le_of_lt (putF_len _ _ _) (by decide), ?_⟩
        have A7 : DpAll K (er (upd H6 t (.tup acc)) p) acc ds := wshAllEr (S6 _ _ hp5) (noTup_ins _ _ _) A6 hW
        have q7 : SqT K (er (upd H6 t (.tup acc)) p) t acc := tupEr (S6 _ _ hp5) (noTup_ins _ _ _) (SqT.of upd_same)
        have E7 : Same (er H p) (er (upd H6 t (.tup acc)) p) := E4.trans (er_mono S6)
        generalize upd H6 t (.tup acc) = H7 at A7 q7 E7 ⊢
        have A8 : DpAll K (er (upd H7 p (.ins A.a_Meal dx (putF "wished" (.ref t) (putF "bounds" (.ref D) [])))) p) acc ds := by rw [er_upd]; exact A7
        have q8 : SqT K (er (upd H7 p (.ins A.a_Meal dx (putF "wished" (.ref t) (putF "bounds" (.ref D) [])))) p) t acc := by rw [er_upd]; exact q7
        have E8 : Same (er H p) (er (upd H7 p (.ins A.a_Meal dx (putF "wished" (.ref t) (putF "bounds" (.ref D) [])))) p) := by rw [er_upd]; exact E7
        generalize hH8 : upd H7 p (.ins A.a_Meal dx (putF "wished" (.ref t) (putF "bounds" (.ref D) []))) = H8 at A8 q8 E8 ⊢
        have hp8 : H8 p = some (.ins A.a_Meal dx (putF "wished" (.ref t) (putF "bounds" (.ref D) []))) := by rw [← hH8]; exact upd_same
        have B8 : Same (er H p) H8 := E8.trans (er_same _ _)
        -- self.places
        refine seq_or hs0 B8 rfl fun J G wk hG => fun D3 hD3 => lc_it wk (fun i H' => Same H8 H' ∧ ∃ zs, H' D3 = some (.lst zs)) ⟨Same.new hD3, _, upd_same⟩ (fun i H' _ h => hG H' (B8.trans h.1)) ?_ (fun H9 h9 => ?_)
        · rintro i x H' H'' hi
          exact absurd hi (Nat.not_lt_zero _)
        · obtain ⟨s9, zs, hz⟩ := h9
          refine ⟨D3, _, rfl, .inl ⟨SqL.of hz, fun t2 ht2 => ?_⟩⟩
          have S10 : Same H8 (upd H9 t2 (.tup zs)) := s9.trans (Same.new ht2)
          refine ⟨_, rfl, p, A.a_Meal, dx, _, rfl, S10 _ _ hp8, T.cl, T.nP, Nat.lt_of_le_of_lt (putF_len _ _ _) (Nat.lt_of_le_of_lt (Nat.succ_le_succ (putF_len _ _ _)) (by decide)), ?_⟩
          refine k _ _ t acc upd_same ?_ ?_ (stUp (H := er _ p) ?_ (er_same _ p)) (dpAllSame (er_same _ p) (by rw [er_upd]; exact dpAllSame (er_mono S10) A8)) (by rw [er_upd]; exact E8.trans (er_mono S10))
          · rw [lookup_putF, if_neg (by decide +kernel), lookup_putF, if_pos rfl]
          · rw [lookup_putF, if_neg (by decide +kernel), lookup_putF, if_neg (by decide +kernel), lookup_putF, if_neg (by decide +kernel)]; rfl
          · rw [er_upd]; exact stUp q8 (er_mono S10)
def spWishes (K : PySem.W.Frag) (C : Addr) : Sp := fun vs H Q _ => ∃ (p dx wd : Addr) (fs : List (Str × V)) (ws : List V), vs = [.ref p] ∧ H p = some (.ins C dx fs) ∧ fs.lookup ("wished" : Str) = some (.ref wd) ∧ SqT K H wd ws ∧
  ∀ l, H l = none → Q (.ref l) (upd H l (.lst ws))
theorem ok_wishes (T : Txt K mg A) : FnOk P w K mg base CX0 1 A.a_Meal_wishes A.d_Meal_wishes P_Meal_wishes (spWishes K A.a_Meal) := by
  refine T.f_Meal_wishes.ok sc_Meal_wishes (fun vs H Q E h => ?_) (fun cdv A' outer s H vs Q E hr h => ?_)
  · obtain ⟨p, dx, wd, fs, ws, rfl, _⟩ := h
    rfl
  · obtain ⟨p, dx, wd, fs, ws, rfl, hp, hw, hq, k⟩ := h
    refine ⟨_, (pss_one (ps_ret (pe_callTy call_list_of (by rfl) T.list (by decide +kernel) (pa_cons (pe_fld (pv 0) rfl) pa_nil)))), ?_⟩
    exact ⟨_, rfl, p, A.a_Meal, dx, fs, _, rfl, hp, T.cl, T.nW, hw, wd, ws, rfl, .inr hq, k⟩
/-- a list of wishes that stands in E -/
structure WL (K : PySem.W.Frag) (E : Hp) (p : Addr) (ds : List PyData) : Prop where
  ex : ∃ vs, E p = some (.lst vs) ∧ DpAll K E vs ds
theorem WL.up {E E' : Hp} {p : Addr} {ds : List PyData} (h : WL K E p ds) (s : Same E E') : WL K E' p ds := by
  obtain ⟨vs, h1, h2⟩ := h.ex
  exact ⟨⟨vs, s _ _ h1, dpAllSame s h2⟩⟩
theorem WL.dp {E : Hp} {p : Addr} {ds : List PyData} (h : WL K E p ds) : Dp K E (.ref p) (.list ds) := by
  obtain ⟨vs, h1, h2⟩ := h.ex
  exact .lst (SqL.of h1) h2
theorem noTup_five (c : Addr) (i l m n : Int) : NoTup (five c i l m n) := noTup_lst _
theorem Grow.wl {p st c : Addr} {H H' : Hp} {b : Int} {ds : List PyData} {kvs : List (Key × V)} (g : Grow K p H H' ds) (S : Sta H st c b) (hp : H p = none) (hW : ∀ d ∈ ds, Wsh kvs d) : WL K (er H' st) p ds ∧ Same H H' := by
  have s : Same H H' := g.same.trans (er_same _ _)
  obtain ⟨vs, h1, h2⟩ := g.ex
  obtain ⟨cs, i, l, m, n, h3, _⟩ := (S.same s).ex
  exact ⟨⟨vs, er_of (S.ne hp) h1, wshAllEr h3 (noTup_five ..) (dpAllSame (er_same _ _) h2) hW⟩, s⟩
theorem Grow.wl0 {p : Addr} {H H' : Hp} {ds : List PyData} (g : Grow K p H H' ds) : WL K H' p ds := by
  obtain ⟨vs, h1, h2⟩ := g.ex
  exact ⟨⟨vs, h1, dpAllSame (er_same _ _) h2⟩⟩
theorem Grow.sh {p : Addr} {H H' : Hp} {ds : List PyData} (g : Grow K p H H' ds) : Same H H' := g.same.trans (er_same _ _)
theorem WL.set {E : Hp} {p q : Addr} {u o : HO} {ds : List PyData} {kvs : List (Key × V)} (h : WL K E p ds) (hq : E q = some u) (hu : NoTup u) (hpq : p ≠ q) (hW : ∀ d ∈ ds, Wsh kvs d) : WL K (upd E q o) p ds := by
  obtain ⟨vs, h1, h2⟩ := h.ex
  refine ⟨⟨vs, by rw [upd_ne hpq]; exact h1, dpAllSame (fun b w e => ?_) (wshAllEr hq hu h2 hW)⟩⟩
  rw [upd_ne (er_some e).1]
  exact (er_some e).2
def kv0 (ns : List Str) : List (Key × V) := ns.map fun s => (Sum.inr s, V.non)
theorem kv0_has {ns : List Str} {s : Str} (h : s ∈ ns) : (valV (kv0 ns) (.inr s)).isSome = true := by
  rw [← valV_any]
  exact List.any_eq_true.mpr ⟨(.inr s, .non), List.mem_map.mpr ⟨s, h, rfl⟩, decide_eq_true rfl⟩
/-- the names are dishes and fit -/
structure NsOk (kvs : List (Key × V)) (ns : List Str) : Prop where
  has : ∀ s ∈ ns, (valV kvs (.inr s)).isSome = true
  ok : ∀ s ∈ ns, PyData.strOk s = true
theorem NsOk.sub {kvs : List (Key × V)} {ns ys : List Str} (h : NsOk kvs ns) (s : ∀ x ∈ ys, x ∈ ns) : NsOk kvs ys := ⟨fun x hx => h.has x (s x hx), fun x hx => h.ok x (s x hx)⟩
theorem wsh_ok {kvs : List (Key × V)} {s t a b : Str} {m : Int} (hs : s = "start" ∨ s = "done") (ht : t = "start" ∨ t = "done") (ha : (valV kvs (.inr a)).isSome = true) (hb : (valV kvs (.inr b)).isSome = true) (oa : PyData.strOk a = true) (ob : PyData.strOk b = true) : Wsh kvs (wsh s a t b m) :=
  .mk (.edge hs ha oa) (.edge ht hb ob)
theorem row_ok {kvs : List (Key × V)} {m : Int} {a : Str} (ha : (valV kvs (.inr a)).isSome = true) (oa : PyData.strOk a = true) : ∀ {r : List Str}, NsOk kvs r → ∀ d ∈ row m a r, Wsh kvs d
  | [], _, d, h => by cases h
  | b :: r, N, d, h => by
    rw [row] at h
    have hb := N.has b (List.mem_cons_self ..)
    have ob := N.ok b (List.mem_cons_self ..)
    rcases List.mem_append.mp h with h | h
    · simp only [two, List.mem_cons, List.mem_nil_iff, or_false] at h
      rcases h with e | e <;> subst e
      · exact wsh_ok (.inr rfl) (.inr rfl) ha hb oa ob
      · exact wsh_ok (.inr rfl) (.inr rfl) hb ha ob oa
    · exact row_ok ha oa (N.sub fun x hx => List.mem_cons_of_mem _ hx) d h
theorem tgs_ok {kvs : List (Key × V)} {m : Int} : ∀ {r : List Str}, NsOk kvs r → ∀ d ∈ tgs m r, Wsh kvs d
  | [], _, d, h => by cases h
  | a :: r, N, d, h => by
    rw [tgs] at h
    have N' : NsOk kvs r := N.sub fun x hx => List.mem_cons_of_mem _ hx
    rcases List.mem_append.mp h with h | h
    · exact row_ok (N.has a (List.mem_cons_self ..)) (N.ok a (List.mem_cons_self ..)) N' d h
    · exact tgs_ok N' d h
theorem keep_ok {kvs : List (Key × V)} {m : Int} {a : Str} {r : List Str} (ha : (valV kvs (.inr a)).isSome = true) (oa : PyData.strOk a = true) (N : NsOk kvs r) : ∀ d ∈ r.map fun b => wsh "done" a "done" b m, Wsh kvs d := fun d h => by
  obtain ⟨b, hb, rfl⟩ := List.mem_map.mp h
  exact wsh_ok (.inr rfl) (.inr rfl) ha (N.has b hb) oa (N.ok b hb)
theorem rdy_ok {kvs : List (Key × V)} {m : Int} {r : List Str} (N : NsOk kvs r) : ∀ d ∈ r.map (rdy m), Wsh kvs d := fun d h => by
  obtain ⟨b, hb, rfl⟩ := List.mem_map.mp h
  exact .mk .clock (.edge (.inr rfl) (N.has b hb) (N.ok b hb))
/-- one of list(row), tuple(row) -/
theorem one_kinds {st c pr : Addr} {H : Hp} {b : Int} {xs : List V} {σ : St} {j : Nat} {Q : VK} (S : Sta H st c b) (hb : b + 1 ≤ 1000000) (h1 : σ[1]? = some (some (.ref st))) (hj : σ[j]? = some (some (.ref pr))) (hr : er H st pr = some (.lst xs))
    (k : ∀ (gv : Addr) (H' : Hp), Gs st c H H' (b + 1) → SqX K (er H' st) gv xs → Q (.ref gv) H') :
    tCall (spOne K) [] E0 (tCons (tVar 1) (tCons (tLst (tCons (tCB (fun us G R => ∃ p ys, us = [V.ref p] ∧ (SqL K G p ys ∨ SqT K G p ys) ∧ ∀ l, G l = none → R (V.ref l) (upd G l (HO.lst ys))) (tCons (tVar j) tNil))
      (tCons (tCB (rTupOf K) (tCons (tVar j) tNil)) tNil))) tNil)) σ H Q := by
  have hrH := (er_same _ _) _ _ hr
  refine ⟨_, h1, _, hj, pr, xs, rfl, .inl (SqL.of hrH), fun q1 n1 => ⟨_, hj, pr, xs, rfl, .inl ⟨SqL.of (Same.new n1 _ _ hrH), fun q2 n2 => ⟨by show 2 ≤ sizeLine; decide, fun q3 n3 => ?_⟩⟩⟩⟩
  have g1 : Gs st c H (upd H q1 (.lst xs)) b := (Gs.refl S).new n1
  have g2 : Gs st c H (upd (upd H q1 (.lst xs)) q2 (.tup xs)) b := g1.new n2
  have g3 : Gs st c H (upd (upd (upd H q1 (.lst xs)) q2 (.tup xs)) q3 (.lst [.ref q1, .ref q2])) b := g2.new n3
  have m1 := S.ne n1
  have m2 := g1.sta.ne n2
  have m3 := g2.sta.ne n3
  have f3 := er_of m3 (upd_same (H := upd (upd H q1 (.lst xs)) q2 (.tup xs)) (a := q3) (o := .lst [.ref q1, .ref q2]))
  have f2 : er (upd (upd (upd H q1 (.lst xs)) q2 (.tup xs)) q3 (.lst [.ref q1, .ref q2])) st q2 = some (.tup xs) := er_of m2 (Same.new n3 _ _ upd_same)
  have f1 : er (upd (upd (upd H q1 (.lst xs)) q2 (.tup xs)) q3 (.lst [.ref q1, .ref q2])) st q1 = some (.lst xs) := er_of m1 (Same.new n3 _ _ (Same.new n2 _ _ upd_same))
  refine ⟨st, c, q3, _, b, rfl, g3.sta, hb, SqL.of f3, by show 0 < 2; decide, by show 2 < 1073741824; decide, fun i v H' hv g => ?_⟩
  match i, hv with
  | 0, hv =>
    rw [← Option.some.inj hv]
    exact k q1 H' (g3.trans g) (.inl (SqL.of (g.same _ _ f1)))
  | 1, hv =>
    rw [← Option.some.inj hv]
    exact k q2 H' (g3.trans g) (.inr (SqT.of (g.same _ _ f2)))
  | i + 2, hv => simp at hv
/-- the law's own lists of wishes -/
theorem lc_keep {H : Hp} {pr D : Addr} {ns : List Str} {a : Str} {m : Int} {s0 s1 s2 s3 s5 s7 s8 s9 s10 s11 s12 s13 s14 : Option V} {Qd : Hp → Prop} (hS : H pr = some (.lst (ns.map V.str))) (hl : ns.length ≤ 64) (hD : H D = none)
    (k : ∀ H', Grow K D H H' (ns.map fun b => wsh "done" a "done" b m) → Qd H') :
    ∃ W : Nat → Nat → Hp → Prop, (∃ m, W 0 m (upd H D (.lst []))) ∧ ∀ i m' H, W i m' H →
      ((Itl K pr).stop i H ∧ Qd H) ∨ ((Itl K pr).go i H ∧ ∃ Nx : Hp → Prop, (∀ H', Nx H' → ∃ m'', m'' < m' ∧ W (i + 1) m'' H') ∧ ∀ x H', (Itl K pr).yld i H x H' → gName 14 x (wipe [s0, s1, s2, s3, some (.int m), s5, some (.str a), s7, s8, s9, s10, s11, s12, s13, s14] [14]) H' fun σ2 H2 => wipe σ2 [14] = wipe [s0, s1, s2, s3, some (.int m), s5, some (.str a), s7, s8, s9, s10, s11, s12, s13, s14] [14] ∧ tYes σ2 H2 fun b H3 =>
        if b = true then (tTup (tCons (tTup (tCons (tC (V.str "done")) (tCons (tVar 6) tNil))) (tCons (tTup (tCons (tC (V.str "done")) (tCons (tVar 14) tNil))) (tCons (tVar 4) tNil)))) σ2 H3 fun y H4 => ∃ acc, H4 D = some (.lst acc) ∧ acc.length < sizeLine ∧ Nx (upd H4 D (.lst (acc ++ [y]))) else Nx H3) := by
  refine lc_it (walk_list (K := K) (a := pr)) (fun i H' => Grow K D H H' ((ns.take i).map fun b => wsh "done" a "done" b m)) (Grow.start hD) (fun i H' _ g => SqL.of (g.sh _ _ hS)) ?_ (fun H' g => ?_)
  · rintro i x H' H'' hi g ⟨rfl, hx⟩
    obtain ⟨hi, rfl⟩ := str_at hx
    obtain ⟨acc, hp, hA⟩ := id g.ex
    have hlen := dpLen hA
    rw [List.length_map, List.length_take] at hlen
    refine ⟨rfl, _, rfl, by show 2 ≤ sizeLine; decide, fun t1 h1 => ⟨_, rfl, by show 2 ≤ sizeLine; decide, fun t2 h2 => ⟨_, rfl, by show 3 ≤ sizeLine; decide, fun t3 h3 => ?_⟩⟩⟩
    obtain ⟨s3, d3⟩ := wish_made (K := K) (m := m) hp h1 h2 h3
    refine ⟨acc, s3 _ _ hp, Nat.lt_of_le_of_lt (show acc.length ≤ 64 by omega) (by decide), ?_⟩
    rw [take_map _ hi]
    exact (g.up s3).app (s3 _ _ hp) d3
  · rw [List.length_map, List.take_length] at g
    exact k H' g
theorem lc_ready {H : Hp} {pr D : Addr} {ns : List Str} {m : Int} {s0 s1 s2 s3 s5 s6 s7 s8 s9 s10 s11 s12 s13 s14 : Option V} {Qd : Hp → Prop} (hS : H pr = some (.lst (ns.map V.str))) (hl : ns.length ≤ 64) (hD : H D = none)
    (k : ∀ H', Grow K D H H' (ns.map (rdy m)) → Qd H') :
    ∃ W : Nat → Nat → Hp → Prop, (∃ m, W 0 m (upd H D (.lst []))) ∧ ∀ i m' H, W i m' H →
      ((Itl K pr).stop i H ∧ Qd H) ∨ ((Itl K pr).go i H ∧ ∃ Nx : Hp → Prop, (∀ H', Nx H' → ∃ m'', m'' < m' ∧ W (i + 1) m'' H') ∧ ∀ x H', (Itl K pr).yld i H x H' → gName 14 x (wipe [s0, s1, s2, s3, some (.int m), s5, s6, s7, s8, s9, s10, s11, s12, s13, s14] [14]) H' fun σ2 H2 => wipe σ2 [14] = wipe [s0, s1, s2, s3, some (.int m), s5, s6, s7, s8, s9, s10, s11, s12, s13, s14] [14] ∧ tYes σ2 H2 fun b H3 =>
        if b = true then (tTup (tCons (tC (V.str "clock")) (tCons (tTup (tCons (tC (V.str "done")) (tCons (tVar 14) tNil))) (tCons (tVar 4) tNil)))) σ2 H3 fun y H4 => ∃ acc, H4 D = some (.lst acc) ∧ acc.length < sizeLine ∧ Nx (upd H4 D (.lst (acc ++ [y]))) else Nx H3) := by
  refine lc_it (walk_list (K := K) (a := pr)) (fun i H' => Grow K D H H' ((ns.take i).map (rdy m))) (Grow.start hD) (fun i H' _ g => SqL.of (g.sh _ _ hS)) ?_ (fun H' g => ?_)
  · rintro i x H' H'' hi g ⟨rfl, hx⟩
    obtain ⟨hi, rfl⟩ := str_at hx
    obtain ⟨acc, hp, hA⟩ := id g.ex
    have hlen := dpLen hA
    rw [List.length_map, List.length_take] at hlen
    refine ⟨rfl, _, rfl, by show 2 ≤ sizeLine; decide, fun t1 h1 => ⟨_, rfl, by show 3 ≤ sizeLine; decide, fun t2 h2 => ?_⟩⟩
    have s1 := Same.new (o := .tup [.str "done", .str ns[i]]) h1
    have s2 := Same.new (o := .tup [.str "clock", .ref t1, .int m]) h2
    have n1 : t1 ≠ D := (ne_of_none hp h1).symm
    have n2 : t2 ≠ D := (ne_of_none (s1 _ _ hp) h2).symm
    refine ⟨acc, s2 _ _ (s1 _ _ hp), Nat.lt_of_le_of_lt (show acc.length ≤ 64 by omega) (by decide), ?_⟩
    rw [take_map _ hi]
    exact (g.up (s1.trans s2)).app (s2 _ _ (s1 _ _ hp)) (.tup (SqT.of (er_of n2 upd_same)) (.cons (.str _) (.cons (.tup (SqT.of (er_of n1 (s2 _ _ upd_same))) (.cons (.str _) (.cons (.str _) .nil))) (.cons (.int _) .nil))))
  · rw [List.length_map, List.take_length] at g
    exact k H' g
theorem momFit {kvs : List (Key × V)} {d : PyData} (m : Mom kvs d) : d.depth ≤ 1 ∧ wid d = true ∧ d.canLay0 = true := by
  cases m with
  | clock => exact ⟨by simp [PyData.depth], rfl, by decide +kernel⟩
  | @edge e n he hn ok =>
    have he' : PyData.strOk e = true := by rcases he with q | q <;> (subst q; decide +kernel)
    exact ⟨by simp [PyData.depth, PyData.depthAll], rfl, by simp [PyData.canLay0, PyData.canLayAll0, ok, he']⟩
theorem wshFit {kvs : List (Key × V)} {d : PyData} (m : Wsh kvs d) : d.depth ≤ 2 ∧ wid d = true ∧ d.canLay0 = true := by
  cases m with
  | mk ha hb =>
    obtain ⟨a1, a2, a3⟩ := momFit ha
    obtain ⟨b1, b2, b3⟩ := momFit hb
    refine ⟨?_, ?_, ?_⟩
    · simp only [PyData.depth, PyData.depthAll]; omega
    · simp [wid, widAll, a2, b2]
    · simp [PyData.canLay0, PyData.canLayAll0, a3, b3]
theorem allFit {kvs : List (Key × V)} : ∀ {ds : List PyData}, (∀ d ∈ ds, Wsh kvs d) → PyData.depthAll ds ≤ 2 ∧ widAll ds = true ∧ PyData.canLayAll0 ds = true
  | [], _ => ⟨by simp [PyData.depthAll], rfl, by simp [PyData.canLayAll0]⟩
  | d :: r, h => by
    obtain ⟨a1, a2, a3⟩ := wshFit (h d (List.mem_cons_self ..))
    obtain ⟨b1, b2, b3⟩ := allFit fun x hx => h x (List.mem_cons_of_mem _ hx)
    refine ⟨?_, ?_, ?_⟩
    · simp only [PyData.depthAll]; omega
    · simp [widAll, a2, b2]
    · simp [PyData.canLayAll0, a3, b3]
theorem list_shaped {kvs : List (Key × V)} {ds : List PyData} (h : ∀ d ∈ ds, Wsh kvs d) : SeqAt.shaped (.list ds) = true := by
  obtain ⟨a, _, b⟩ := allFit h
  show (PyData.canLay0 (.list ds) && decide (PyData.depth (.list ds) ≤ 64)) = true
  rw [Bool.and_eq_true]
  exact ⟨by simpa only [PyData.canLay0] using b, decide_eq_true (by simp only [PyData.depth]; omega)⟩
theorem four_wid {kvs : List (Key × V)} {d1 d2 d3 d4 : List PyData} (h1 : ∀ d ∈ d1, Wsh kvs d) (h2 : ∀ d ∈ d2, Wsh kvs d) (h3 : ∀ d ∈ d3, Wsh kvs d) (h4 : ∀ d ∈ d4, Wsh kvs d) (l1 : d1.length ≤ 1000) (l2 : d2.length ≤ 1000) (l3 : d3.length ≤ 1000) (l4 : d4.length ≤ 1000) :
    wid (.list [.list d1, .list d2, .list d3, .list d4]) = true := by
  simp [wid, widAll, (allFit h1).2.1, (allFit h2).2.1, (allFit h3).2.1, (allFit h4).2.1, l1, l2, l3, l4]
theorem four_depth {kvs : List (Key × V)} {d1 d2 d3 d4 : List PyData} (h1 : ∀ d ∈ d1, Wsh kvs d) (h2 : ∀ d ∈ d2, Wsh kvs d) (h3 : ∀ d ∈ d3, Wsh kvs d) (h4 : ∀ d ∈ d4, Wsh kvs d) : PyData.depth (.list [.list d1, .list d2, .list d3, .list d4]) < 7 := by
  have a1 := (allFit h1).1
  have a2 := (allFit h2).1
  have a3 := (allFit h3).1
  have a4 := (allFit h4).1
  simp only [PyData.depth, PyData.depthAll]
  omega
theorem dpApp2 {H : Hp} : ∀ {vs ws : List V} {ds es : List PyData}, DpAll K H vs ds → DpAll K H ws es → DpAll K H (vs ++ ws) (ds ++ es)
  | _, _, _, _, .nil, h => h
  | _, _, _, _, .cons a b, h => .cons a (dpApp2 b h)
theorem dpTake {H : Hp} : ∀ (n : Nat) {vs : List V} {ds : List PyData}, DpAll K H vs ds → DpAll K H (vs.take n) (ds.take n)
  | 0, _, _, _ => .nil
  | n + 1, _, _, .nil => .nil
  | n + 1, _, _, .cons a b => .cons a (dpTake n b)
theorem cut_to (xs : List V) (k : Nat) : cutV xs none (some (k : Int)) = xs.take k := by
  unfold cutV
  rw [HT.sIx_none, HT.sIx_nat, List.drop_zero, Nat.sub_zero]
  by_cases h : k ≤ xs.length
  · rw [Nat.min_eq_left h]
  · rw [Nat.min_eq_right (by omega), List.take_of_length_le (Nat.le_refl _), List.take_of_length_le (by omega)]
theorem put_new : ∀ (acc : List (Key × V)) (k : Key) (v : V), k ∉ acc.map (·.1) → putK acc k v = acc ++ [(k, v)] := fun acc k v h => by
  unfold putK
  have e : (acc.any fun kv => decide (kv.1 = k)) = false := by
    rw [List.any_eq_false]
    intro p hp q
    exact h (List.mem_map.mpr ⟨p, hp, of_decide_eq_true q⟩)
  rw [e]
  rfl
theorem merge_all : ∀ (kvs acc : List (Key × V)), ((acc ++ kvs).map (·.1)).Nodup → mergeK acc kvs = acc ++ kvs
  | [], acc, _ => (List.append_nil acc).symm
  | (k, v) :: r, acc, h => by
    have e : mergeK acc ((k, v) :: r) = mergeK (putK acc k v) r := rfl
    rw [e, put_new acc k v ?_, merge_all r (acc ++ [(k, v)]) (by rw [List.append_assoc]; exact h), List.append_assoc]
    · rfl
    · rw [List.map_append, List.nodup_append] at h
      intro hk
      exact h.2.2 k hk k (by simp) rfl
/-- the pairs of a dict of dishes that a comprehension makes -/
structure Prs (K : PySem.W.Frag) (E : Hp) (ns : List Str) (ps : List Addr) (kvs : List (Key × V)) : Prop where
  pair : Paired (fun p (kv : Key × V) => SqT K E p [kV kv.1, kv.2]) ps kvs
  keys : kvs.map (·.1) = ns.map Sum.inr
  vals : ∀ kv ∈ kvs, ∃ b, kv.2 = V.ref b ∧ SqT K E b [.int 1, .int 2]
theorem Prs.up {E E' : Hp} {ns : List Str} {ps : List Addr} {kvs : List (Key × V)} (h : Prs K E ns ps kvs) (s : Same E E') : Prs K E' ns ps kvs := by
  refine ⟨?_, h.keys, fun kv hk => ?_⟩
  · have := h.pair
    clear h
    induction this with
    | nil => exact .nil
    | cons a _ ih => exact .cons (stUp a s) ih
  · obtain ⟨b, e, q⟩ := h.vals kv hk
    exact ⟨b, e, stUp q s⟩
theorem pairedSnoc {α β : Type} {R : α → β → Prop} {x : α} {y : β} (r : R x y) : ∀ {xs : List α} {ys : List β}, Paired R xs ys → Paired R (xs ++ [x]) (ys ++ [y])
  | _, _, .nil => .cons r .nil
  | _, _, .cons a b => .cons a (pairedSnoc r b)
theorem Prs.snoc {E : Hp} {ns : List Str} {ps : List Addr} {kvs : List (Key × V)} {s : Str} {p b : Addr} (h : Prs K E ns ps kvs) (hp : SqT K E p [.str s, .ref b]) (hb : SqT K E b [.int 1, .int 2]) : Prs K E (ns ++ [s]) (ps ++ [p]) (kvs ++ [(.inr s, .ref b)]) := by
  refine ⟨pairedSnoc (R := fun p (kv : Key × V) => SqT K E p [kV kv.1, kv.2]) hp h.pair, by rw [List.map_append, List.map_append, h.keys]; rfl, fun kv hk => ?_⟩
  rcases List.mem_append.mp hk with q | q
  · exact h.vals kv q
  · rw [List.mem_singleton.mp q]
    exact ⟨b, rfl, hb⟩
def spLaw (K : PySem.W.Frag) : Sp := fun vs H Q _ => ∃ (a : Addr) (ns : List Int), vs = [.ref a] ∧ SqL K H a (ns.map V.int) ∧ ns.length ≤ 63 ∧ ∀ H', Q (.bl true) H'
theorem eqv_refl' {d : PyData} (h : d.canLay0 = true) : PyData.eqv d d = true := by first | exact SeqAt.eqv_refl _ h | exact P3.eqv_refl _ h | exact PyData.eqv_refl _ h
theorem ok_law (T : Txt K mg A) : FnOk P w K mg base CX0 8 A.a_law A.d_law P_law (spLaw K) := by
  have G__law_fresh : FnOk P w K mg base CX0 1 A.a__law_fresh A.d__law_fresh P__law_fresh (spFresh K) := ok_fresh T
  have G__law_take : FnOk P w K mg base CX0 1 A.a__law_take A.d__law_take P__law_take spTake := ok_take T
  have G__law_one : FnOk P w K mg base CX0 2 A.a__law_one A.d__law_one P__law_one (spOne K) := ok_one T
  have G__law_some : FnOk P w K mg base CX0 2 A.a__law_some A.d__law_some P__law_some (spSome K) := ok_some T
  have G__law_names : FnOk P w K mg base CX0 3 A.a__law_names A.d__law_names P__law_names (spNames K) := ok_names T
  have G__law_together : FnOk P w K mg base CX0 1 A.a__law_together A.d__law_together P__law_together (spLTg K) := ok_ltogether T
  have G__law_same : FnOk P w K mg base CX0 7 A.a__law_same A.d__law_same P__law_same (spSame K 7) := ok_same T 7
  have G_together : FnOk P w K mg base CX0 1 A.a_together A.d_together P_together (spTg K) := ok_together T
  have G_keeping : FnOk P w K mg base CX0 1 A.a_keeping A.d_keeping P_keeping (spKeep K) := ok_keeping T
  have G_ready_by : FnOk P w K mg base CX0 1 A.a_ready_by A.d_ready_by P_ready_by (spReady K) := ok_ready T
  have G_behind : FnOk P w K mg base CX0 1 A.a_behind A.d_behind P_behind (spBehind K) := ok_behind T
  have G_Meal___init__ : FnOk P w K mg base CX0 5 A.a_Meal___init__ A.d_Meal___init__ P_Meal___init__ (spInit K A.a_Meal) := ok_init T
  have G_Meal_wishes : FnOk P w K mg base CX0 1 A.a_Meal_wishes A.d_Meal_wishes P_Meal_wishes (spWishes K A.a_Meal) := ok_wishes T
  obtain ⟨dsM, vM, bM⟩ := T.b_Meal___init__
  refine T.f_law.ok sc_law (fun vs H Q E h => ?_) (fun cdv A' outer s H vs Q E hr h => ?_)
  · obtain ⟨a, ns, rfl, _⟩ := h
    rfl
  · obtain ⟨a, ns, rfl, hS, hlen, k⟩ := h
    refine ⟨_, (pss_cons (ps_set (i := 1) sc_law.nd rfl (Or.inl rfl) (pe_call G__law_fresh (hr.mono (by omega)) (by rfl) T.g__law_fresh T.f__law_fresh.kp T.b__law_fresh .nil pass0 (pa_cons (pv 0) pa_nil)))
 (pss_cons (ps_for PassesOwn.never rfl (pi_range1 (by rfl) T.range (pa_cons pe_int pa_nil)) (pg_name (i := 2) sc_law.nd rfl (Or.inl rfl))
 (pss_cons (ps_set (i := 3) sc_law.nd rfl (Or.inl rfl) (pe_call G__law_names (hr.mono (by omega)) (by rfl) T.g__law_names T.f__law_names.kp T.b__law_names .nil pass0 (pa_cons (pv 1) (pa_cons (pe_op op_add pe_int (pe_call G__law_take (hr.mono (by omega)) (by rfl) T.g__law_take T.f__law_take.kp T.b__law_take .nil pass0 (pa_cons (pv 1) (pa_cons pe_int pa_nil)))) pa_nil))))
 (pss_cons (ps_set (i := 4) sc_law.nd rfl (Or.inr rfl) (pe_call G__law_one (hr.mono (by omega)) (by rfl) T.g__law_one T.f__law_one.kp T.b__law_one .nil pass0 (pa_cons (pv 1) (pa_cons (pe_lst (pa_cons pe_int (pa_cons pe_int (pa_cons pe_int (pa_cons (pe_un un_neg pe_int) (pa_cons pe_int (pa_cons (pe_un un_neg pe_int) (pa_cons (pe_call G__law_take (hr.mono (by omega)) (by rfl) T.g__law_take T.f__law_take.kp T.b__law_take .nil pass0 (pa_cons (pv 1) (pa_cons pe_int pa_nil))) pa_nil)))))))) pa_nil))))
 (pss_cons (ps_asg (pe_tup (pa_cons (pe_call G__law_some (hr.mono (by omega)) (by rfl) T.g__law_some T.f__law_some.kp T.b__law_some .nil pass0 (pa_cons (pv 1) (pa_cons (pv 3) pa_nil))) (pa_cons (pe_ix ix_list (pv 3) pe_int (fun _ _ => rfl)) pa_nil))) (pg_tup (by rfl) (pgs_cons (pg_name (i := 5) sc_law.nd rfl (Or.inl rfl)) (pgs_cons (pg_name (i := 6) sc_law.nd rfl (Or.inr rfl)) pgs_nil))))
 (pss_cons (ps_setLc (i := 7) (own := [("_law_x", 14)]) (g := gName 14)  (by rfl) sc_law.nd rfl rfl (sw_true rfl rfl rfl (by decide +kernel)) (pi_list (pv 5)) (blkOk_by (N := N_law) (sc := defScope s_law) (by decide +kernel)) (fun _ _ _ _ _ => pg_name (i := 14) sc_law.nd rfl (Or.inl rfl)) (fun _ _ _ _ _ => pts_one (pt_cmpR op_ne (pv 14) (pv 6) (nomark _))) (fun _ _ _ _ _ => (pv 14)))
 (pss_cons (ps_set (i := 8) sc_law.nd rfl (Or.inl rfl) (pe_lst (pa_cons (pe_call G__law_together (hr.mono (by omega)) (by rfl) T.g__law_together T.f__law_together.kp T.b__law_together .nil pass0 (pa_cons (pv 5) (pa_cons (pv 4) pa_nil))) (pa_cons (pe_lc (own := [("_law_x", 14)]) (g := gName 14) (by rfl) sc_law.nd (pi_list (pv 7)) (blkOk_by (N := N_law) (sc := defScope s_law) (by decide +kernel)) (fun _ _ _ _ _ => pg_name (i := 14) sc_law.nd rfl (Or.inl rfl)) (fun _ _ _ _ _ => pts_nil) (fun _ _ _ _ _ => (pe_tup (pa_cons (pe_tup (pa_cons pe_str (pa_cons (pv 6) pa_nil))) (pa_cons (pe_tup (pa_cons pe_str (pa_cons (pv 14) pa_nil))) (pa_cons (pv 4) pa_nil)))))) pa_nil))))
 (pss_cons (ps_expr (pe_bm PySem.F.plainAttrs_list PySem.F.slot_list_append PySem.F.type_list_append mt_append (pv 8) (pa_cons (pe_lc (own := [("_law_x", 14)]) (g := gName 14) (by rfl) sc_law.nd (pi_list (pv 5)) (blkOk_by (N := N_law) (sc := defScope s_law) (by decide +kernel)) (fun _ _ _ _ _ => pg_name (i := 14) sc_law.nd rfl (Or.inl rfl)) (fun _ _ _ _ _ => pts_nil) (fun _ _ _ _ _ => (pe_tup (pa_cons pe_str (pa_cons (pe_tup (pa_cons pe_str (pa_cons (pv 14) pa_nil))) (pa_cons (pv 4) pa_nil)))))) pa_nil)))
 (pss_cons (ps_expr (pe_bm PySem.F.plainAttrs_list PySem.F.slot_list_append PySem.F.type_list_append mt_append (pv 8) (pa_cons (pe_lst (pa_cons (pe_tup (pa_cons (pe_tup (pa_cons pe_str (pa_cons (pv 6) pa_nil))) (pa_cons (pe_tup (pa_cons pe_str (pa_cons (pe_ix ix_list (pv 3) pe_int (fun _ _ => rfl)) pa_nil))) (pa_cons (pe_op op_sub pe_int (pv 4)) pa_nil)))) pa_nil)) pa_nil)))
 (pss_cons (ps_for PassesOwn.never rfl (pi_range1 (by rfl) T.range (pa_cons pe_int pa_nil)) (pg_name (i := 9) sc_law.nd rfl (Or.inl rfl))
 (pss_cons (ps_par (i := 10) (j := 11) (by rfl) sc_law.nd rfl rfl (by decide) rfl rfl (pa_cons (pe_call G__law_one (hr.mono (by omega)) (by rfl) T.g__law_one T.f__law_one.kp T.b__law_one .nil pass0 (pa_cons (pv 1) (pa_cons (pe_lst (pa_cons (pe_callTy call_list_of (by rfl) T.list (by decide +kernel) (pa_cons (pv 5) pa_nil)) (pa_cons (pe_callTy call_tuple_of (by rfl) T.tuple (by decide +kernel) (pa_cons (pv 5) pa_nil)) pa_nil))) pa_nil))) (pa_cons (pe_call G__law_one (hr.mono (by omega)) (by rfl) T.g__law_one T.f__law_one.kp T.b__law_one .nil pass0 (pa_cons (pv 1) (pa_cons (pe_lst (pa_cons (pe_callTy call_list_of (by rfl) T.list (by decide +kernel) (pa_cons (pv 7) pa_nil)) (pa_cons (pe_callTy call_tuple_of (by rfl) T.tuple (by decide +kernel) (pa_cons (pv 7) pa_nil)) pa_nil))) pa_nil))) pa_nil)) (by rfl))
 (pss_cons (ps_set (i := 12) sc_law.nd rfl (Or.inl rfl) (pe_lst (pa_cons (pe_call G_together (hr.mono (by omega)) (by rfl) T.g_together T.f_together.kp T.b_together .nil pass0 (pa_cons (pv 10) (pa_cons (pv 4) pa_nil))) (pa_cons (pe_call G_keeping (hr.mono (by omega)) (by rfl) T.g_keeping T.f_keeping.kp T.b_keeping .nil pass0 (pa_cons (pv 6) (pa_cons (pv 11) (pa_cons (pv 4) pa_nil)))) (pa_cons (pe_call G_ready_by (hr.mono (by omega)) (by rfl) T.g_ready_by T.f_ready_by.kp T.b_ready_by .nil pass0 (pa_cons (pv 10) (pa_cons (pv 4) pa_nil))) pa_nil)))))
 (pss_cons (ps_expr (pe_bm PySem.F.plainAttrs_list PySem.F.slot_list_append PySem.F.type_list_append mt_append (pv 12) (pa_cons (pe_call G_behind (hr.mono (by omega)) (by rfl) T.g_behind T.f_behind.kp T.b_behind .nil pass0 (pa_cons (pv 6) (pa_cons (pe_ix ix_list (pv 3) pe_int (fun _ _ => rfl)) (pa_cons (pv 4) pa_nil)))) pa_nil)))
 (pss_cons (ps_if (PW.pt (pw_or (pt_not (pt_val (pe_call G__law_same (hr.mono (by omega)) (by rfl) T.g__law_same T.f__law_same.kp T.b__law_same .nil pass0 (pa_cons (pv 12) (pa_cons (pv 8) pa_nil))))) (pw_or1 (pt_cmpR (op_neD hr.units) (pe_callTy call_list_of (by rfl) T.list (by decide +kernel) (pa_cons (pv 10) pa_nil)) (pv 5) (nomark _)))))
 (pss_one (ps_ret pe_bl))
 pss_nil)
 (pss_one (ps_for PassesOwn.never rfl (pi_list (pv 12)) (pg_name (i := 13) sc_law.nd rfl (Or.inl rfl))
 (pss_one (ps_expr (pe_bm PySem.F.plainAttrs_list PySem.F.slot_list_append PySem.F.type_list_append mt_append (pv 13) (pa_cons pe_str pa_nil)))))))))))
 (pss_cons (ps_set (i := 13) sc_law.nd rfl (Or.inl rfl) (pe_op op_cat (pe_op op_cat (pe_op op_cat (pe_slice sl_list (pe_ix ix_list (pv 8) pe_int (fun _ _ => rfl)) po_none (po_some pe_int)) (pe_ix ix_list (pv 8) pe_int (fun _ _ => rfl))) (pe_ix ix_list (pv 8) pe_int (fun _ _ => rfl))) (pe_ix ix_list (pv 8) pe_int (fun _ _ => rfl))))
 (pss_one (ps_if (pt_cmpR (op_neD hr.units) (pe_meth0 (pe_make T.mkM G_Meal___init__ (hr.mono (by omega)) (by rfl) T.g_Meal bM vM pass0 (pa_cons (pe_callTy (call_dictP rfl) (by rfl) T.dict (by decide +kernel) (pa_cons (pe_lc (own := [("_law_x", 14)]) (g := gName 14) (by rfl) sc_law.nd (pi_list (pv 3)) (blkOk_by (N := N_law) (sc := defScope s_law) (by decide +kernel)) (fun _ _ _ _ _ => pg_name (i := 14) sc_law.nd rfl (Or.inl rfl)) (fun _ _ _ _ _ => pts_nil) (fun _ _ _ _ _ => (pe_tup (pa_cons (pv 14) (pa_cons (pe_tup (pa_cons pe_int (pa_cons pe_int pa_nil))) pa_nil))))) pa_nil)) (pa_cons (pv 13) pa_nil))) T.cl T.m_wishes G_Meal_wishes (hr.mono (by omega)) T.b_Meal_wishes .nil pass0) (pv 13) (nomark _))
 (pss_one (ps_ret pe_bl))
 pss_nil))))))))))))
 (pss_one (ps_ret pe_bl)))), ?_⟩
    refine ⟨_, rfl, a, ns, rfl, hS, fun st c H1 _ S1 => ?_⟩
    refine ⟨4, rfl, by decide, by decide, for_range (lo := 0) (n := (4 : Int).toNat) (fun i σ' H' => ∃ v2 v3 v4 v5 v6 v7 v8 v9 v10 v11 v12 v13 v14, σ' = [some (.ref a), some (.ref st), v2, v3, v4, v5, v6, v7, v8, v9, v10, v11, v12, v13, v14] ∧ Sta H' st c (1000 * (i : Int)))
      ⟨_, _, _, _, _, _, _, _, _, _, _, _, _, rfl, by simpa using S1⟩ ?_ (fun σ' H' _ => k H')⟩
    clear hS S1
    rintro i σ' H0 hi ⟨v2, v3, v4, v5, v6, v7, v8, v9, v10, v11, v12, v13, v14, rfl, S0⟩
    have hi4 : (i : Int) < 4 := by
      have : i < 4 := hi
      omega
    -- names
    refine ⟨_, rfl, _, rfl, st, c, 5, _, rfl, S0, by omega, by omega, by omega, fun r o hr0 hr1 S1 => ⟨_, _, rfl, rfl, st, c, _, (2 + r).toNat, ?_, S1, by omega, by omega, fun pn ns H2 hnd hpool hnl g2 hn _ => ?_⟩⟩
    · rw [show (((2 + r).toNat : Nat) : Int) = 2 + r by omega]; rfl
    have g2 := (Gs.of_upd S1).trans g2
    have hn2 : 2 ≤ ns.length := by omega
    have hn6 : ns.length ≤ 6 := by omega
    -- most
    refine ⟨_, rfl, _, rfl, _, rfl, _, rfl, st, c, 100, _, rfl, g2.sta, by omega, by omega, by omega, fun r2 o2 _ _ S3 => ⟨by show 7 ≤ sizeLine; decide, fun pl npl => ?_⟩⟩
    have g3 := g2.trans (Gs.of_upd S3)
    have ml := g3.sta.ne npl
    have g3 := g3.new npl (o := .lst [.int 0, .int 1, .int 7, .int (-3), .int 999999999, .int (-999999999), .int r2])
    refine ⟨st, c, pl, _, _, rfl, g3.sta, by omega, SqL.of (er_of ml upd_same), by show 0 < 7; decide, by show 7 < 1073741824; decide, fun i4 v H4 hv g4 => ?_⟩
    obtain ⟨m, rfl⟩ : ∃ m, v = V.int m := by
      have hm := List.mem_of_getElem? hv
      simp only [List.mem_cons, List.not_mem_nil, or_false] at hm
      rcases hm with e | e | e | e | e | e | e <;> exact ⟨_, e⟩
    have n4 : Same (er H2 st) (er H4 st) := by
      have q1 : Same (er H2 st) (er (upd H2 st o2) st) := by rw [er_upd]; exact Same.refl _
      exact (q1.trans (er_mono (Same.new npl))).trans g4.same
    have g4 := g3.trans g4
    have hn4 := n4 _ _ hn
    -- row, name
    refine ⟨_, rfl, _, rfl, st, c, pn, ns, _, rfl, g4.sta, by omega, SqL.of hn4, by omega, fun pr ys H5 hsub g5 hr _ => ?_⟩
    have hn5 := g5.same _ _ hn4
    have g5 := g4.trans g5
    have h0n : 0 < ns.length := by omega
    have h1n : 1 < ns.length := by omega
    have hat : ∀ (j : Nat) (hj : j < ns.length) (z : Int), z = (j : Int) → atI (ns.map V.str) z = some (V.str ns[j]) := fun j hj z hz => at_of hz (by rw [List.getElem?_map, List.getElem?_eq_getElem hj]; rfl)
    refine ⟨_, rfl, pn, _, _, _, rfl, rfl, SqL.of ((er_same _ _) _ _ hn5), hat 0 h0n 0 rfl, by show 2 ≤ sizeLine; decide, fun pt npt => ?_⟩
    have mt := g5.sta.ne npt
    refine ⟨pt, _, rfl, SqT.of upd_same, rfl, _, _, rfl, _, _, rfl, rfl, ?_⟩
    have n6 : Same (er H5 st) (er (upd H5 pt (.tup [.ref pr, .str ns[0]])) st) := er_mono (Same.new npt)
    have hn6' := n6 _ _ hn5
    have hr6 := n6 _ _ hr
    have g6 := g5.new npt (o := .tup [.ref pr, .str ns[0]])
    clear hn hn4 hn5 hr n6 n4
    generalize hH6 : upd H5 pt (.tup [.ref pr, .str ns[0]]) = H6 at g6 hn6' hr6 ⊢
    clear hH6
    generalize ha0 : ns[0] = a0
    -- rest
    have hys : ys.length ≤ 6 := Nat.le_trans hsub.length_le hn6
    refine ⟨_, rfl, pr, rfl, ⟨_, SqL.of ((er_same _ _) _ _ hr6)⟩, fun D nD => lc_it (walk_list (K := K) (a := pr)) (fun i H' => Same H6 H' ∧ H' D = some (.lst (((ys.take i).filter fun x => decide (x ≠ a0)).map V.str))) ⟨Same.new nD, upd_same⟩ (fun i H' _ q => SqL.of (q.1 _ _ ((er_same _ _) _ _ hr6))) ?_ (fun H7 q7 => ?_)⟩
    · rintro i x H' H'' hi ⟨s1, hD⟩ ⟨rfl, hx⟩
      obtain ⟨hi, rfl⟩ := str_at hx
      have et : (ys.take (i + 1)).filter (fun x => decide (x ≠ a0)) = (ys.take i).filter (fun x => decide (x ≠ a0)) ++ (if ys[i] ≠ a0 then [ys[i]] else []) := by
        rw [List.take_succ, List.getElem?_eq_getElem hi, List.filter_append]
        congr 1
        by_cases e : ys[i] = a0 <;> simp [e]
      have hfl : (((ys.take i).filter fun x => decide (x ≠ a0)).map V.str).length ≤ 6 := by
        rw [List.length_map]
        refine Nat.le_trans (List.length_filter_le _ _) (by rw [List.length_take]; omega)
      refine ⟨rfl, _, rfl, _, rfl, rfl, _, rfl, ite2 (fun q => ?_) (fun q => ?_)⟩
      · have e : ys[i] ≠ a0 := by
          intro z
          rw [z, decide_eq_true rfl] at q
          cases q
        refine ⟨_, rfl, _, hD, Nat.lt_of_le_of_lt hfl (by decide), ?_, ?_⟩
        · exact fun b u e => by rw [upd_ne (ne_of_none e nD)]; exact s1 _ _ e
        · rw [upd_same, et, if_pos e, List.map_append]; rfl
      · have e : ys[i] = a0 := by
          refine Decidable.byContradiction fun z => q ?_
          rw [decide_eq_false (fun w => z (V.str.inj w))]
          rfl
        exact ⟨s1, by rw [et, if_neg (fun z => z e), List.append_nil]; exact hD⟩
    · obtain ⟨s7, hD7⟩ := q7
      rw [List.length_map, List.take_length] at hD7
      generalize hrs : (ys.filter fun x => decide (x ≠ a0)) = rs at hD7
      have hrl : rs.length ≤ 6 := by rw [← hrs]; exact Nat.le_trans (List.length_filter_le _ _) hys
      have hrsub : ∀ x ∈ rs, x ∈ ns := fun x hx => by rw [← hrs] at hx; exact hsub.subset (List.mem_filter.mp hx).1
      have hysub : ∀ x ∈ ys, x ∈ ns := fun x hx => hsub.subset hx
      have ha0m : a0 ∈ ns := by rw [← ha0]; exact List.getElem_mem _
      have ha1m : ns[1] ∈ ns := List.getElem_mem _
      have hat1 := hat 1 h1n 1 rfl
      clear hat
      have g7 := g6.trans (Gs.of_same g6.sta s7)
      have hn7 := er_mono s7 _ _ hn6'
      have hr7 := er_mono s7 _ _ hr6
      have hD7' := er_of (g6.sta.ne nD) hD7
      clear hn6' hr6 hD7 g6 hrs
      have N : NsOk (kv0 ns) ns := ⟨fun s h => kv0_has h, fun s h => pool_ok s (hpool s h)⟩
      have W1 := tgs_ok (m := m) (N.sub hysub)
      have W2 := keep_ok (m := m) (N.has _ ha0m) (N.ok _ ha0m) (N.sub hrsub)
      have W3 := rdy_ok (m := m) (N.sub hysub)
      have sEr : ∀ {G : Hp}, Same (er G st) G := fun {G} => er_same G st
      have sEr' : ∀ {G0 G : Hp} {q : Addr}, Same G0 (er G q) → Same G0 G := fun {G0 G q} h => h.trans (er_same G q)
      -- due
      refine ⟨_, rfl, _, rfl, pr, ys, m, rfl, SqL.of (sEr _ _ hr7), by omega, fun L1 H8 nL1 gr1 => ?_⟩
      obtain ⟨wl1, s8⟩ := gr1.wl g7.sta nL1 W1
      have g8 := g7.trans (Gs.of_same g7.sta s8)
      have hn8 := er_mono s8 _ _ hn7
      have hr8 := er_mono s8 _ _ hr7
      have hD8 := er_mono s8 _ _ hD7'
      refine ⟨_, rfl, D, rfl, ⟨_, SqL.of (sEr _ _ hD8)⟩, fun L2 nL2 => lc_keep (sEr _ _ hD8) (by omega) nL2 (fun H9 gr2 => ⟨by show 2 ≤ sizeLine; decide, fun pd npd => ?_⟩)⟩
      obtain ⟨wl2, s9⟩ := gr2.wl g8.sta nL2 W2
      have g9 := g8.trans (Gs.of_same g8.sta s9)
      have hn9 := er_mono s9 _ _ hn8
      have hr9 := er_mono s9 _ _ hr8
      have hD9 := er_mono s9 _ _ hD8
      have wl1 := wl1.up (er_mono s9)
      clear hn7 hn8 hr7 hr8 hD7' hD8 gr1 gr2
      have mpd := g9.sta.ne npd
      have epd := er_none (st := st) npd
      have c10 : Gs st c H9 (upd H9 pd (.lst [.ref L1, .ref L2])) _ := (Gs.refl g9.sta).new npd
      have hpd10 : upd H9 pd (.lst [.ref L1, .ref L2]) pd = some (.lst [.ref L1, .ref L2]) := upd_same
      generalize upd H9 pd (.lst [.ref L1, .ref L2]) = H10 at c10 hpd10 ⊢
      refine ⟨_, rfl, .inl ⟨rfl, _, SqL.of hpd10⟩, _, rfl, pr, rfl, ⟨_, SqL.of (sEr _ _ (c10.same _ _ hr9))⟩, fun L3 nL3 => lc_ready (sEr _ _ (c10.same _ _ hr9)) (by omega) nL3 (fun H11 gr3 => ⟨pd, _, _, rfl, rfl, gr3.sh _ _ hpd10, by show 2 < sizeLine; decide, ?_⟩)⟩
      obtain ⟨wl3, s11⟩ := gr3.wl c10.sta nL3 W3
      have c11 := c10.trans (Gs.of_same c10.sta s11)
      have n3d : L3 ≠ pd := (ne_of_none hpd10 nL3).symm
      have wl3 := wl3.set (o := .lst [.ref L1, .ref L2, .ref L3]) (er_of mpd (s11 _ _ hpd10)) (noTup_lst _) n3d W3
      rw [← er_updp mpd] at wl3
      have c12 := c11.set (o := .lst [.ref L1, .ref L2, .ref L3]) g9.sta.hc epd mpd
      have hpd12 : upd H11 pd (.lst [.ref L1, .ref L2, .ref L3]) pd = some (.lst [.ref L1, .ref L2, .ref L3]) := upd_same
      refine cast_heap (b := upd H11 pd (.lst [.ref L1, .ref L2, .ref L3])) rfl ?_
      generalize upd H11 pd (.lst [.ref L1, .ref L2, .ref L3]) = H12 at c12 hpd12 wl3 ⊢
      clear c10 c11 hpd10 gr3 s11
      have eL4 : ∀ {z : Int}, z = 0 - m → z = -m := fun h => by omega
      refine ⟨_, rfl, .inl ⟨rfl, _, SqL.of hpd12⟩, _, rfl, by show 2 ≤ sizeLine; decide, fun t1 h1 => ⟨_, rfl, pn, _, _, _, rfl, rfl, SqL.of (Same.new h1 _ _ (sEr _ _ (c12.same _ _ hn9))), hat1, by show 2 ≤ sizeLine; decide, fun t2 h2 => ⟨_, rfl, _, _, rfl, rfl, by show 3 ≤ sizeLine; decide, fun t3 h3 => ⟨by show 1 ≤ sizeLine; decide, fun L4 nL4 => ?_⟩⟩⟩⟩
      obtain ⟨s13, d13⟩ := wish_made0 (K := K) (m := 0 - m) h1 h2 h3
      have gr4 : Grow K L4 H12 _ [wsh "start" a0 "done" ns[1] (0 - m)] := ⟨⟨_, upd_same, .cons (dpSame (same_erp nL4) d13) .nil⟩, s13.trans (same_erp nL4)⟩
      have nL4' := s13.free nL4
      have W4 : ∀ d ∈ [wsh "start" a0 "done" ns[1] (0 - m)], Wsh (kv0 ns) d := fun d hd => by
        rw [List.mem_singleton.mp hd]
        exact wsh_ok (.inl rfl) (.inr rfl) (N.has _ ha0m) (N.has _ ha1m) (N.ok _ ha0m) (N.ok _ ha1m)
      generalize upd (upd (upd (upd H12 t1 (.tup [.str "start", .str a0])) t2 (.tup [.str "done", .str ns[1]])) t3 (.tup [.ref t1, .ref t2, .int (0 - m)])) L4 (.lst [.ref t3]) = H14 at gr4 ⊢
      clear s13 d13 nL4 h1 h2 h3
      obtain ⟨wl4, s14⟩ := gr4.wl c12.sta nL4' W4
      refine ⟨pd, _, _, rfl, rfl, s14 _ _ hpd12, by show 3 < sizeLine; decide, ?_⟩
      have n4d : L4 ≠ pd := (ne_of_none hpd12 nL4').symm
      have hpd14 := s14 _ _ hpd12
      have wl3 := (wl3.up (er_mono s14)).set (o := .lst [.ref L1, .ref L2, .ref L3, .ref L4]) (er_of mpd hpd14) (noTup_lst _) n3d W3
      have wl4 := wl4.set (o := .lst [.ref L1, .ref L2, .ref L3, .ref L4]) (er_of mpd hpd14) (noTup_lst _) n4d W4
      rw [← er_updp mpd] at wl3 wl4
      have c15 := (c12.trans (Gs.of_same c12.sta s14)).set (o := .lst [.ref L1, .ref L2, .ref L3, .ref L4]) g9.sta.hc epd mpd
      have hpd15 : upd H14 pd (.lst [.ref L1, .ref L2, .ref L3, .ref L4]) pd = some (.lst [.ref L1, .ref L2, .ref L3, .ref L4]) := upd_same
      refine cast_heap (b := upd H14 pd (.lst [.ref L1, .ref L2, .ref L3, .ref L4])) rfl ?_
      generalize upd H14 pd (.lst [.ref L1, .ref L2, .ref L3, .ref L4]) = H15 at c15 hpd15 wl3 wl4 ⊢
      have hn := c15.same _ _ hn9
      have hr := c15.same _ _ hr9
      have hD := c15.same _ _ hD9
      have wl1 := wl1.up c15.same
      have wl2 := wl2.up c15.same
      have hpd := er_of mpd hpd15
      rw [show (0 : Int) - m = -m by omega] at wl4 W4
      have g15 := g9.trans c15
      clear c15 hpd15 hn9 hr9 hD9 c12 hpd12 gr4 nL4' s14 hpd14 g9 n3d n4d epd npd g8 g7
      have t72 : (tgs m ys).length ≤ 72 := by
        have h3 := tgs_len m ys
        have h4 : ys.length * ys.length ≤ 6 * 6 := Nat.mul_le_mul hys hys
        omega
      have W1' := four_wid W1 W2 W3 W4 (by omega) (by rw [List.length_map]; omega) (by rw [List.length_map]; omega) (by show 1 ≤ 1000; decide)
      have W2' := four_depth W1 W2 W3 W4
      have hst15 : ∀ {G : Hp} {b : Int}, Gs st c H15 G b → Dp K G (.ref pd) (.list [.list (tgs m ys), .list (rs.map fun b => wsh "done" a0 "done" b m), .list (ys.map (rdy m)), .list [wsh "start" a0 "done" ns[1] (-m)]]) := fun {G b} g =>
        .lst (SqL.of (sEr _ _ (g.same _ _ hpd))) (.cons (dpSame sEr (wl1.up g.same).dp) (.cons (dpSame sEr (wl2.up g.same).dp) (.cons (dpSame sEr (wl3.up g.same).dp) (.cons (dpSame sEr (wl4.up g.same).dp) .nil))))
      refine ⟨2, rfl, by decide, by decide, for_range (lo := 0) (n := (2 : Int).toNat) (fun j σ' H' => ∃ u9 u10 u11 u12 u13, σ' = [some (.ref a), some (.ref st), some (.int (0 + (i : Int))), some (.ref pn), some (.int m), some (.ref pr), some (.str a0), some (.ref D), some (.ref pd), u9, u10, u11, u12, u13, v14] ∧ Gs st c H15 H' (1000 * (i : Int) + 500 + 10 * (j : Int)))
        ⟨_, _, _, _, _, rfl, (Gs.refl g15.sta).le (by omega) (by omega)⟩ ?_ ?_⟩
      · rintro j σ' G0 hj ⟨u9, u10, u11, u12, u13, rfl, q0⟩
        have hj2 : (j : Int) < 2 := by
          have : j < 2 := hj
          omega
        refine one_kinds (pr := pr) q0.sta (by omega) rfl rfl (q0.same _ _ hr) (fun gv G1 g1 sx1 => one_kinds (pr := D) g1.sta (by omega) rfl rfl ((q0.trans g1).same _ _ hD) (fun lv G2 g2 sx2 => ⟨_, _, rfl, ?_⟩))
        have q2 := (q0.trans g1).trans g2
        have sx1 : SqX K G2 gv (ys.map V.str) := sxUp (sxUp sx1 g2.same) sEr
        have sx2 : SqX K G2 lv (rs.map V.str) := sxUp sx2 sEr
        -- what the program makes
        refine ⟨_, rfl, _, rfl, gv, ys, m, rfl, sx1, by omega, fun p1 F1 n1 gr1 => ⟨_, rfl, _, rfl, _, rfl, lv, a0, rs, m, rfl, sxUp sx2 gr1.sh, by omega, fun p2 F2 n2 gr2 => ⟨_, rfl, _, rfl, gv, ys, m, rfl, sxUp sx1 (gr1.sh.trans gr2.sh), by omega, fun p3 F3 n3 gr3 => ⟨by show 3 ≤ sizeLine; decide, fun pf nf => ?_⟩⟩⟩⟩
        have sF3 : Same G2 F3 := (gr1.sh.trans gr2.sh).trans gr3.sh
        have sF4 : Same F3 (upd F3 pf (.lst [.ref p1, .ref p2, .ref p3])) := Same.new nf
        have hf4 : upd F3 pf (.lst [.ref p1, .ref p2, .ref p3]) pf = some (.lst [.ref p1, .ref p2, .ref p3]) := upd_same
        generalize upd F3 pf (.lst [.ref p1, .ref p2, .ref p3]) = F4 at sF4 hf4 ⊢
        refine ⟨_, rfl, .inl ⟨rfl, _, SqL.of hf4⟩, _, rfl, _, rfl, pn, _, _, _, rfl, rfl, SqL.of ((sF3.trans sF4) _ _ (sEr _ _ (q2.same _ _ hn))), hat1, _, rfl, a0, ns[1], m, rfl, fun p4 F5 n4 gr4 => ⟨pf, _, _, rfl, rfl, gr4.sh _ _ hf4, by show 3 < sizeLine; decide, ?_⟩⟩
        refine cast_heap (b := upd F5 pf (.lst [.ref p1, .ref p2, .ref p3, .ref p4])) rfl ?_
        have qF1 := q2.trans (Gs.of_same q2.sta gr1.sh)
        have qF2 := qF1.trans (Gs.of_same qF1.sta gr2.sh)
        have qF3 := qF2.trans (Gs.of_same qF2.sta gr3.sh)
        have qF4 := qF3.trans (Gs.of_same qF3.sta sF4)
        have qF5 := qF4.trans (Gs.of_same qF4.sta gr4.sh)
        have mpf := qF3.sta.ne nf
        have epf := qF3.same.free (er_none nf)
        have hf5 := gr4.sh _ _ hf4
        have a1 := gr1.wl0.up ((gr2.sh.trans gr3.sh).trans (sF4.trans gr4.sh))
        have a2 := gr2.wl0.up (gr3.sh.trans (sF4.trans gr4.sh))
        have a3 := gr3.wl0.up (sF4.trans gr4.sh)
        have a4 := gr4.wl0
        have d1 : p1 ≠ pf := by
          obtain ⟨_, z, _⟩ := (gr1.wl0.up (gr2.sh.trans gr3.sh)).ex
          exact ne_of_none z nf
        have d2 : p2 ≠ pf := by
          obtain ⟨_, z, _⟩ := (gr2.wl0.up gr3.sh).ex
          exact ne_of_none z nf
        have d3 : p3 ≠ pf := by
          obtain ⟨_, z, _⟩ := gr3.wl0.ex
          exact ne_of_none z nf
        have d4 : p4 ≠ pf := (ne_of_none hf4 n4).symm
        have hstat : ∀ q ∈ [p1, p2, p3, p4], q ≠ pf ∧ er H15 st q = none ∧ q ≠ st := fun q hq => by
          simp only [List.mem_cons, List.not_mem_nil, or_false] at hq
          rcases hq with e | e | e | e <;> subst e
          · exact ⟨d1, q2.same.free (er_none n1), q2.sta.ne n1⟩
          · exact ⟨d2, qF1.same.free (er_none n2), qF1.sta.ne n2⟩
          · exact ⟨d3, qF2.same.free (er_none n3), qF2.sta.ne n3⟩
          · exact ⟨d4, qF4.same.free (er_none n4), qF4.sta.ne n4⟩
        have b1 := a1.set (o := .lst [.ref p1, .ref p2, .ref p3, .ref p4]) hf5 (noTup_lst _) d1 W1
        have b2 := a2.set (o := .lst [.ref p1, .ref p2, .ref p3, .ref p4]) hf5 (noTup_lst _) d2 W2
        have b3 := a3.set (o := .lst [.ref p1, .ref p2, .ref p3, .ref p4]) hf5 (noTup_lst _) d3 W3
        have b4 := a4.set (o := .lst [.ref p1, .ref p2, .ref p3, .ref p4]) hf5 (noTup_lst _) d4 W4
        have qF6 := qF5.set (o := .lst [.ref p1, .ref p2, .ref p3, .ref p4]) g15.sta.hc epf mpf
        have hf6 : upd F5 pf (.lst [.ref p1, .ref p2, .ref p3, .ref p4]) pf = some (.lst [.ref p1, .ref p2, .ref p3, .ref p4]) := upd_same
        have sx6 : SqX K (upd F5 pf (.lst [.ref p1, .ref p2, .ref p3, .ref p4])) gv (ys.map V.str) := by
          have z : Same F3 (er F5 pf) := fun b u e => er_of (ne_of_none e nf) ((sF4.trans gr4.sh) _ _ e)
          exact sxUp (sxUp (sxUp sx1 sF3) z) (fun b u e => by rw [upd_ne (er_some e).1]; exact (er_some e).2)
        generalize upd F5 pf (.lst [.ref p1, .ref p2, .ref p3, .ref p4]) = F6 at b1 b2 b3 b4 qF6 hf6 sx6 ⊢
        clear a1 a2 a3 a4 qF1 qF2 qF3 qF4 qF5 hf5 hf4 sF4 sF3
        refine ⟨_, rfl, _, rfl, .ref pf, .ref pd, _, rfl, .lst (SqL.of hf6) (.cons b1.dp (.cons b2.dp (.cons b3.dp (.cons b4.dp .nil)))), hst15 qF6, W2', W1', fun F7 s7 => ⟨_, rfl, iteF ?_⟩⟩
        have ok_ys : ∀ s ∈ ys, PyData.strOk s = true := fun s h => N.ok s (hysub s h)
        have sh_ys := strs_shaped ok_ys
        refine ⟨_, rfl, gv, _, rfl, sxUp sx6 s7, fun l nl => ⟨_, rfl, .list (ys.map PyData.str), .list (ys.map PyData.str), .lst (SqL.of upd_same) (dpStrs ys), .lst (SqL.of (Same.new nl _ _ (s7 _ _ (sEr _ _ (qF6.same _ _ hr))))) (dpStrs ys), sh_ys, sh_ys, _, rfl, ite2 (fun z => ?_) (fun _ => ?_)⟩⟩
        · rw [eqv_refl' (SeqAt.canLay_of_shaped sh_ys)] at z
          cases z
        · have s8 : Same F6 (upd F7 l (.lst (ys.map V.str))) := s7.trans (Same.new nl)
          have q8 := qF6.trans (Gs.of_same qF6.sta s8)
          have hf8 := s8 _ _ hf6
          have b1 := b1.up s8
          have b2 := b2.up s8
          have b3 := b3.up s8
          have b4 := b4.up s8
          generalize upd F7 l (.lst (ys.map V.str)) = F8 at q8 hf8 b1 b2 b3 b4 ⊢
          have lens : ∀ {p : Addr} {ds : List PyData}, WL K F8 p ds → ds.length ≤ 8192 → ∃ vs, F8 p = some (.lst vs) ∧ vs.length ≤ 8200 + 0 := fun h hl => by
            obtain ⟨vs, h1, h2⟩ := h.ex
            exact ⟨vs, h1, by rw [dpLen h2]; omega⟩
          have l1 := lens b1 (by
            have h3 := tgs_len m ys
            have h4 : ys.length * ys.length ≤ 6 * 6 := Nat.mul_le_mul hys hys
            omega)
          have l2 := lens b2 (by rw [List.length_map]; omega)
          have l3 := lens b3 (by rw [List.length_map]; omega)
          have l4 := lens b4 (by show 1 ≤ 8192; decide)
          clear lens b1 b2 b3 b4
          refine ⟨_, rfl, pf, rfl, ⟨_, SqL.of hf8⟩, for_it (walk_list (K := K) (a := pf)) (fun t σ' H' => ∃ x, σ' = [some (.ref a), some (.ref st), some (.int (0 + (i : Int))), some (.ref pn), some (.int m), some (.ref pr), some (.str a0), some (.ref D), some (.ref pd), some (.int (0 + (j : Int))), some (.ref gv), some (.ref lv), some (.ref pf), x, v14] ∧ Gs st c H15 H' (1000 * (i : Int) + 500 + 10 * ((j + 1 : Nat) : Int)) ∧ H' pf = some (.lst [.ref p1, .ref p2, .ref p3, .ref p4]) ∧ ∀ q ∈ [p1, p2, p3, p4], ∃ vs, H' q = some (.lst vs) ∧ vs.length ≤ 8200 + t)
            ⟨u13, rfl, q8.le (by omega) (by omega), hf8, fun q hq => ?_⟩ (fun t σ' H' _ z => SqL.of z.choose_spec.2.2.1) ?_ ?_⟩
          · simp only [List.mem_cons, List.not_mem_nil, or_false] at hq
            rcases hq with e | e | e | e <;> subst e <;> assumption
          · rintro t x σ' H' H'' ht ⟨y, rfl, q9, hf9, hl9⟩ ⟨rfl, hx⟩
            obtain ⟨q, hq, rfl⟩ : ∃ q, q ∈ [p1, p2, p3, p4] ∧ x = V.ref q := by
              have hm := List.mem_of_getElem? hx
              simp only [List.mem_cons, List.not_mem_nil, or_false] at hm
              rcases hm with e | e | e | e
              · exact ⟨p1, by simp, e⟩
              · exact ⟨p2, by simp, e⟩
              · exact ⟨p3, by simp, e⟩
              · exact ⟨p4, by simp, e⟩
            obtain ⟨vs, hv, hvl⟩ := hl9 q hq
            obtain ⟨t1, t2, t3⟩ := hstat q hq
            have ht4 : t < 4 := ht
            refine ⟨_, rfl, .inl ⟨rfl, _, SqL.of hv⟩, q, vs, _, rfl, rfl, hv, Nat.lt_of_le_of_lt (show vs.length ≤ 8204 by omega) (by decide), ?_⟩
            refine ⟨_, rfl, q9.set g15.sta.hc t2 t3, by rw [upd_ne t1.symm]; exact hf9, fun r hr => ?_⟩
            by_cases e : r = q
            · subst e
              exact ⟨_, upd_same, by rw [List.length_append, List.length_singleton]; omega⟩
            · obtain ⟨ws, h1, h2⟩ := hl9 r hr
              exact ⟨ws, by rw [upd_ne e]; exact h1, by omega⟩
          · rintro σ' H' ⟨y, rfl, q9, _, _⟩
            exact ⟨_, _, _, _, _, rfl, q9⟩
      · rintro σ' H16 ⟨u9, u10, u11, u12, u13, rfl, q16⟩
        obtain ⟨vs1, e1, A1⟩ := (wl1.up q16.same).ex
        obtain ⟨vs2, e2, A2⟩ := (wl2.up q16.same).ex
        obtain ⟨vs3, e3, A3⟩ := (wl3.up q16.same).ex
        obtain ⟨vs4, e4, A4⟩ := (wl4.up q16.same).ex
        have ed := q16.same _ _ hpd
        have en := q16.same _ _ hn
        have g16 := g15.trans q16
        have z1 := dpLen A1
        have z2 := dpLen A2
        have z3 := dpLen A3
        have z4 := dpLen A4
        rw [List.length_map] at z2 z3
        replace z4 : vs4.length = 1 := z4
        clear wl1 wl2 wl3 wl4 hpd hn hr hD hst15 W1' W2'
        have big : ∀ n : Nat, n ≤ 500 → n ≤ sizeLine := fun n h => Nat.le_trans h (by decide)
        refine ⟨_, rfl, pd, _, _, _, rfl, rfl, SqL.of (sEr _ _ ed), rfl, _, rfl, L1, vs1, rfl, SqL.of (sEr _ _ e1), fun k1 nk1 => ?_⟩
        rw [show (12 : Int) = ((12 : Nat) : Int) from rfl, cut_to]
        have c1 : Same H16 (upd H16 k1 (.lst (vs1.take 12))) := Same.new nk1
        refine ⟨_, rfl, pd, _, _, _, rfl, rfl, SqL.of (c1 _ _ (sEr _ _ ed)), rfl, _, _, _, _, rfl, rfl, upd_same, c1 _ _ (sEr _ _ e2), big _ (by rw [List.length_take]; omega), fun k2 nk2 => ?_⟩
        have c2 := c1.trans (Same.new nk2 (o := .lst (vs1.take 12 ++ vs2)))
        refine ⟨_, rfl, pd, _, _, _, rfl, rfl, SqL.of (c2 _ _ (sEr _ _ ed)), rfl, _, _, _, _, rfl, rfl, upd_same, c2 _ _ (sEr _ _ e3), big _ (by rw [List.length_append, List.length_take]; omega), fun k3 nk3 => ?_⟩
        have c3 := c2.trans (Same.new nk3 (o := .lst (vs1.take 12 ++ vs2 ++ vs3)))
        refine ⟨_, rfl, pd, _, _, _, rfl, rfl, SqL.of (c3 _ _ (sEr _ _ ed)), rfl, _, _, _, _, rfl, rfl, upd_same, c3 _ _ (sEr _ _ e4), big _ (by rw [List.length_append, List.length_append, List.length_take]; omega), fun pw nw => ?_⟩
        have c4 := c3.trans (Same.new nw (o := .lst (vs1.take 12 ++ vs2 ++ vs3 ++ vs4)))
        have hpw : upd (upd (upd (upd H16 k1 (.lst (vs1.take 12))) k2 (.lst (vs1.take 12 ++ vs2))) k3 (.lst (vs1.take 12 ++ vs2 ++ vs3))) pw (.lst (vs1.take 12 ++ vs2 ++ vs3 ++ vs4)) pw = some (.lst (vs1.take 12 ++ vs2 ++ vs3 ++ vs4)) := upd_same
        have AW := dpAllSame (sEr.trans c4) (dpApp2 (dpApp2 (dpApp2 (dpTake 12 A1) A2) A3) A4)
        have WW : ∀ {kvs : List (Key × V)}, (∀ d ∈ tgs m ys, Wsh kvs d) → (∀ d ∈ rs.map fun b => wsh "done" a0 "done" b m, Wsh kvs d) → (∀ d ∈ ys.map (rdy m), Wsh kvs d) → (∀ d ∈ [wsh "start" a0 "done" ns[1] (-m)], Wsh kvs d) →
            ∀ d ∈ (tgs m ys).take 12 ++ (rs.map fun b => wsh "done" a0 "done" b m) ++ ys.map (rdy m) ++ [wsh "start" a0 "done" ns[1] (-m)], Wsh kvs d := fun h1 h2 h3 h4 d hd => by
          rcases List.mem_append.mp hd with hd | hd
          · rcases List.mem_append.mp hd with hd | hd
            · rcases List.mem_append.mp hd with hd | hd
              · exact h1 d (List.mem_of_mem_take hd)
              · exact h2 d hd
            · exact h3 d hd
          · exact h4 d hd
        have LW : ((tgs m ys).take 12 ++ (rs.map fun b => wsh "done" a0 "done" b m) ++ ys.map (rdy m) ++ [wsh "start" a0 "done" ns[1] (-m)]).length ≤ 1000 := by
          simp only [List.length_append, List.length_take, List.length_map, List.length_singleton]
          omega
        have WD := WW W1 W2 W3 W4
        have WG : ∀ {kvs : List (Key × V)}, (∀ s ∈ ns, (valV kvs (.inr s)).isSome = true) → ∀ d ∈ (tgs m ys).take 12 ++ (rs.map fun b => wsh "done" a0 "done" b m) ++ ys.map (rdy m) ++ [wsh "start" a0 "done" ns[1] (-m)], Wsh kvs d := fun {kvs} h => by
          have N' : NsOk kvs ns := ⟨h, N.ok⟩
          refine WW (tgs_ok (N'.sub hysub)) (keep_ok (N'.has _ ha0m) (N.ok _ ha0m) (N'.sub hrsub)) (rdy_ok (N'.sub hysub)) (fun d hd => ?_)
          rw [List.mem_singleton.mp hd]
          exact wsh_ok (.inl rfl) (.inr rfl) (N'.has _ ha0m) (N'.has _ ha1m) (N.ok _ ha0m) (N.ok _ ha1m)
        have en4 := c4 _ _ (sEr _ _ en)
        have S20 := g16.sta.same c4
        generalize upd (upd (upd (upd H16 k1 (.lst (vs1.take 12))) k2 (.lst (vs1.take 12 ++ vs2))) k3 (.lst (vs1.take 12 ++ vs2 ++ vs3))) pw (.lst (vs1.take 12 ++ vs2 ++ vs3 ++ vs4)) = H20 at hpw AW en4 S20 ⊢
        generalize vs1.take 12 ++ vs2 ++ vs3 ++ vs4 = vw at hpw AW
        generalize (tgs m ys).take 12 ++ (rs.map fun b => wsh "done" a0 "done" b m) ++ ys.map (rdy m) ++ [wsh "start" a0 "done" ns[1] (-m)] = dw at AW LW WD WG
        clear c1 c2 c3 c4 nk1 nk2 nk3 nw A1 A2 A3 A4 e1 e2 e3 e4 ed en WW W1 W2 W3 W4
        -- Meal(dict([..]), wishes).wishes() != wishes
        refine ⟨_, rfl, pn, rfl, ⟨_, SqL.of en4⟩, fun D4 nD4 => lc_it (walk_list (K := K) (a := pn)) (fun t H' => ∃ ps kvs, H' D4 = some (.lst (ps.map V.ref)) ∧ ps.length = t ∧ Prs K (er H' D4) (ns.take t) ps kvs ∧ Same H20 (er H' D4)) ⟨[], [], upd_same, rfl, ⟨.nil, rfl, fun _ h => by cases h⟩, same_erp nD4⟩ (fun t H' _ z => by
          obtain ⟨_, _, _, _, _, s⟩ := z
          exact SqL.of (sEr' s _ _ en4)) ?_ (fun H21 z => ?_)⟩
        · rintro t x H' H'' ht ⟨ps, kvs, hD, hpl, hP, s⟩ ⟨rfl, hx⟩
          obtain ⟨ht, rfl⟩ := str_at hx
          refine ⟨rfl, _, rfl, by show 2 ≤ sizeLine; decide, fun t1 h1 => ⟨by show 2 ≤ sizeLine; decide, fun t2 h2 => ?_⟩⟩
          have s1 := Same.new (o := .tup [.int 1, .int 2]) h1
          have s2 := Same.new (o := .tup [.str ns[t], .ref t1]) h2
          have m1 : t1 ≠ D4 := (ne_of_none hD h1).symm
          have m2 : t2 ≠ D4 := (ne_of_none (s1 _ _ hD) h2).symm
          refine ⟨ps.map V.ref, s2 _ _ (s1 _ _ hD), by rw [List.length_map, hpl]; exact Nat.lt_of_lt_of_le (show t < 7 by omega) (by decide), ps ++ [t2], kvs ++ [(.inr ns[t], .ref t1)], ?_, by rw [List.length_append, List.length_singleton, hpl], ?_, ?_⟩
          · rw [upd_same, List.map_append]; rfl
          · rw [er_upd, List.take_succ, List.getElem?_eq_getElem ht]
            exact (hP.up (er_mono (s1.trans s2))).snoc (SqT.of (er_of m2 upd_same)) (SqT.of (er_of m1 (s2 _ _ upd_same)))
          · rw [er_upd]
            exact s.trans (er_mono (s1.trans s2))
        · obtain ⟨ps, kvs, hD, hpl, hP, s⟩ := z
          rw [List.length_map, List.take_length] at hP
          have kN : (kvs.map (·.1)).Nodup := by
            rw [hP.keys]
            exact List.pairwise_map.mpr (hnd.imp fun h e => h (Sum.inr.inj e))
          refine ⟨D4, ps, kvs, rfl, SqL.of hD, (hP.up (er_same _ _)).pair, fun dd ndd => ?_⟩
          rw [merge_all kvs [] kN, List.nil_append]
          have sB : Same H20 (upd H21 dd (.dK kvs)) := (sEr' s).trans (Same.new ndd)
          have PB : Prs K (upd H21 dd (.dK kvs)) ns ps kvs := hP.up ((er_same _ _).trans (Same.new ndd))
          have hdd : upd H21 dd (.dK kvs) dd = some (.dK kvs) := upd_same
          generalize upd H21 dd (.dK kvs) = Hb at sB PB hdd ⊢
          refine ⟨_, rfl, fun x dx nx ndx nex => ?_⟩
          have sM : Same Hb (er (upd (upd Hb dx (.own x)) x (.ins A.a_Meal dx [])) x) := fun b u e => er_of (ne_of_none e nx) (by rw [upd_ne (ne_of_none e nx), upd_ne (ne_of_none e ndx)]; exact e)
          have hxM : upd (upd Hb dx (.own x)) x (.ins A.a_Meal dx []) x = some (.ins A.a_Meal dx []) := upd_same
          generalize upd (upd Hb dx (.own x)) x (.ins A.a_Meal dx []) = Hm at sM hxM ⊢
          have sM' : Same Hb Hm := sEr' sM
          have hddM := sM' _ _ hdd
          have has : ∀ s ∈ ns, (valV kvs (.inr s)).isSome = true := fun s hs => by
            rw [← valV_any]
            have hm : (Sum.inr s : Key) ∈ kvs.map (·.1) := by rw [hP.keys]; exact List.mem_map.mpr ⟨s, hs, rfl⟩
            obtain ⟨kv, h1, h2⟩ := List.mem_map.mp hm
            exact List.any_eq_true.mpr ⟨kv, h1, decide_eq_true h2⟩
          have hDOk : DOk K (er Hm dd) kvs := ⟨kN, fun i key v hk => by
            obtain ⟨b, eb, hb⟩ := PB.vals _ (List.mem_of_getElem? hk)
            have h1 : (kvs.map (·.1))[i]? = some key := by rw [List.getElem?_map, hk]; rfl
            rw [hP.keys, List.getElem?_map] at h1
            cases e : ns[i]? with
            | none =>
              rw [e] at h1
              cases h1
            | some s =>
              rw [e] at h1
              have hm := List.mem_of_getElem? e
              exact ⟨s, b, 1, 2, (Option.some.inj h1).symm, pool_nm s (hpool s hm), N.ok s hm, eb, tupEr hddM ⟨fun _ z => (nomatch z), fun _ _ z => (nomatch z)⟩ (stUp hb sM'), by decide, by decide⟩⟩
          refine ⟨x, dx, dd, pw, A.a_S0, kvs, ns, vw, dw, rfl, hxM, hddM, hDOk, hP.keys, by omega, .inl (SqL.of (sM _ _ (sB _ _ hpw))), dpAllSame (sB.trans sM) AW, LW, WG has, .inr (stUp T.e0 (fun _ _ z => nomatch z)), fun H' fs wd ws' hx hw hno hq hA hS => ⟨rfl, x, dx, fs, rfl, hx, hno, x, dx, wd, fs, ws', rfl, hx, hw, hq, fun l nl => ?_⟩⟩
          have sF : Same H20 (upd H' l (.lst ws')) := (sB.trans (sM.trans (hS.trans (er_same _ _)))).trans (Same.new nl)
          have shW := list_shaped WD
          refine ⟨_, rfl, .list dw, .list dw, .lst (SqL.of upd_same) (dpAllSame (Same.new nl) hA), .lst (SqL.of (sF _ _ hpw)) (dpAllSame sF AW), shW, shW, _, rfl, ite2 (fun z => ?_) (fun _ => ?_)⟩
          · rw [eqv_refl' (SeqAt.canLay_of_shaped shW)] at z
            cases z
          · exact ⟨_, _, _, _, _, _, _, _, _, _, _, _, _, rfl, (S20.same sF).le (by omega) (by omega)⟩
end
theorem all_mk {l : PySem.W.OpenLaw} {w : World} {K : PySem.W.Frag} {h : Heap} {mg : Str → Option Value} {fa : Addr} (X : K.In h) (G : h.Ns mainGlobals mg) (hfa : mg ("law" : Str) = some (.ref fa))
    {c_Meal : Addr}
    (y1_Meal : PySem.W.nsIn K mainGlobals "Meal" = some (some (.ref c_Meal)))
    (y2_Meal : PySem.W.plainGet K c_Meal Str.empty = true) (y3_Meal : PySem.W.hasDictIn K c_Meal = true) (y4_Meal : PySem.W.plainOver K c_Meal = true) (y5_Meal : PySem.W.findIn K (.ref c_Meal) "__setattr__" = some (some (.builtin "object.__setattr__"))) (y6_Meal : PySem.W.makesIn K c_Meal = true) (y7_Meal : PySem.W.keepIn K (.ref c_Meal) = true)
    (z_Meal_bounds : PySem.W.findIn K (.ref c_Meal) "bounds" = some none)
    (z_Meal_wished : PySem.W.findIn K (.ref c_Meal) "wished" = some none)
    (z_Meal_places : PySem.W.findIn K (.ref c_Meal) "places" = some none)
    {f_is_integer : Addr} {od_is_integer an_is_integer : Option Addr} {sl_is_integer : Array (Option Value)} {oc_is_integer kV_is_integer dc_is_integer pm_is_integer cd_is_integer ct_is_integer : Value}
    (x1_is_integer : PySem.W.nsIn K mainGlobals "is_integer" = some (some (.ref f_is_integer)))
    (x2_is_integer : K.lookup f_is_integer = some ⟨oc_is_integer, od_is_integer, .func (PySem.W.fnOf "is_integer" "is_integer" (defArgs s_is_integer) (defBody s_is_integer) (defScope s_is_integer) .none kV_is_integer dc_is_integer pm_is_integer an_is_integer cd_is_integer ct_is_integer), sl_is_integer⟩)
    (x3_is_integer : PySem.W.codeIn K cd_is_integer "is_integer" = true) (x4_is_integer : PySem.W.keepIn K (.ref f_is_integer) = true)
    {f_is_list : Addr} {od_is_list an_is_list : Option Addr} {sl_is_list : Array (Option Value)} {oc_is_list kV_is_list dc_is_list pm_is_list cd_is_list ct_is_list : Value}
    (x1_is_list : PySem.W.nsIn K mainGlobals "is_list" = some (some (.ref f_is_list)))
    (x2_is_list : K.lookup f_is_list = some ⟨oc_is_list, od_is_list, .func (PySem.W.fnOf "is_list" "is_list" (defArgs s_is_list) (defBody s_is_list) (defScope s_is_list) .none kV_is_list dc_is_list pm_is_list an_is_list cd_is_list ct_is_list), sl_is_list⟩)
    (x3_is_list : PySem.W.codeIn K cd_is_list "is_list" = true) (x4_is_list : PySem.W.keepIn K (.ref f_is_list) = true)
    {f_is_name : Addr} {od_is_name an_is_name : Option Addr} {sl_is_name : Array (Option Value)} {oc_is_name kV_is_name dc_is_name pm_is_name cd_is_name ct_is_name : Value}
    (x1_is_name : PySem.W.nsIn K mainGlobals "is_name" = some (some (.ref f_is_name)))
    (x2_is_name : K.lookup f_is_name = some ⟨oc_is_name, od_is_name, .func (PySem.W.fnOf "is_name" "is_name" (defArgs s_is_name) (defBody s_is_name) (defScope s_is_name) .none kV_is_name dc_is_name pm_is_name an_is_name cd_is_name ct_is_name), sl_is_name⟩)
    (x3_is_name : PySem.W.codeIn K cd_is_name "is_name" = true) (x4_is_name : PySem.W.keepIn K (.ref f_is_name) = true)
    {f_is_dish : Addr} {od_is_dish an_is_dish : Option Addr} {sl_is_dish : Array (Option Value)} {oc_is_dish kV_is_dish dc_is_dish pm_is_dish cd_is_dish ct_is_dish : Value}
    (x1_is_dish : PySem.W.nsIn K mainGlobals "is_dish" = some (some (.ref f_is_dish)))
    (x2_is_dish : K.lookup f_is_dish = some ⟨oc_is_dish, od_is_dish, .func (PySem.W.fnOf "is_dish" "is_dish" (defArgs s_is_dish) (defBody s_is_dish) (defScope s_is_dish) .none kV_is_dish dc_is_dish pm_is_dish an_is_dish cd_is_dish ct_is_dish), sl_is_dish⟩)
    (x3_is_dish : PySem.W.codeIn K cd_is_dish "is_dish" = true) (x4_is_dish : PySem.W.keepIn K (.ref f_is_dish) = true)
    {f_is_bounds : Addr} {od_is_bounds an_is_bounds : Option Addr} {sl_is_bounds : Array (Option Value)} {oc_is_bounds kV_is_bounds dc_is_bounds pm_is_bounds cd_is_bounds ct_is_bounds : Value}
    (x1_is_bounds : PySem.W.nsIn K mainGlobals "is_bounds" = some (some (.ref f_is_bounds)))
    (x2_is_bounds : K.lookup f_is_bounds = some ⟨oc_is_bounds, od_is_bounds, .func (PySem.W.fnOf "is_bounds" "is_bounds" (defArgs s_is_bounds) (defBody s_is_bounds) (defScope s_is_bounds) .none kV_is_bounds dc_is_bounds pm_is_bounds an_is_bounds cd_is_bounds ct_is_bounds), sl_is_bounds⟩)
    (x3_is_bounds : PySem.W.codeIn K cd_is_bounds "is_bounds" = true) (x4_is_bounds : PySem.W.keepIn K (.ref f_is_bounds) = true)
    {f_is_moment : Addr} {od_is_moment an_is_moment : Option Addr} {sl_is_moment : Array (Option Value)} {oc_is_moment kV_is_moment dc_is_moment pm_is_moment cd_is_moment ct_is_moment : Value}
    (x1_is_moment : PySem.W.nsIn K mainGlobals "is_moment" = some (some (.ref f_is_moment)))
    (x2_is_moment : K.lookup f_is_moment = some ⟨oc_is_moment, od_is_moment, .func (PySem.W.fnOf "is_moment" "is_moment" (defArgs s_is_moment) (defBody s_is_moment) (defScope s_is_moment) .none kV_is_moment dc_is_moment pm_is_moment an_is_moment cd_is_moment ct_is_moment), sl_is_moment⟩)
    (x3_is_moment : PySem.W.codeIn K cd_is_moment "is_moment" = true) (x4_is_moment : PySem.W.keepIn K (.ref f_is_moment) = true)
    {f_is_wish : Addr} {od_is_wish an_is_wish : Option Addr} {sl_is_wish : Array (Option Value)} {oc_is_wish kV_is_wish dc_is_wish pm_is_wish cd_is_wish ct_is_wish : Value}
    (x1_is_wish : PySem.W.nsIn K mainGlobals "is_wish" = some (some (.ref f_is_wish)))
    (x2_is_wish : K.lookup f_is_wish = some ⟨oc_is_wish, od_is_wish, .func (PySem.W.fnOf "is_wish" "is_wish" (defArgs s_is_wish) (defBody s_is_wish) (defScope s_is_wish) .none kV_is_wish dc_is_wish pm_is_wish an_is_wish cd_is_wish ct_is_wish), sl_is_wish⟩)
    (x3_is_wish : PySem.W.codeIn K cd_is_wish "is_wish" = true) (x4_is_wish : PySem.W.keepIn K (.ref f_is_wish) = true)
    {f_as_moment : Addr} {od_as_moment an_as_moment : Option Addr} {sl_as_moment : Array (Option Value)} {oc_as_moment kV_as_moment dc_as_moment pm_as_moment cd_as_moment ct_as_moment : Value}
    (x1_as_moment : PySem.W.nsIn K mainGlobals "as_moment" = some (some (.ref f_as_moment)))
    (x2_as_moment : K.lookup f_as_moment = some ⟨oc_as_moment, od_as_moment, .func (PySem.W.fnOf "as_moment" "as_moment" (defArgs s_as_moment) (defBody s_as_moment) (defScope s_as_moment) .none kV_as_moment dc_as_moment pm_as_moment an_as_moment cd_as_moment ct_as_moment), sl_as_moment⟩)
    (x3_as_moment : PySem.W.codeIn K cd_as_moment "as_moment" = true) (x4_as_moment : PySem.W.keepIn K (.ref f_as_moment) = true)
    {f_as_wish : Addr} {od_as_wish an_as_wish : Option Addr} {sl_as_wish : Array (Option Value)} {oc_as_wish kV_as_wish dc_as_wish pm_as_wish cd_as_wish ct_as_wish : Value}
    (x1_as_wish : PySem.W.nsIn K mainGlobals "as_wish" = some (some (.ref f_as_wish)))
    (x2_as_wish : K.lookup f_as_wish = some ⟨oc_as_wish, od_as_wish, .func (PySem.W.fnOf "as_wish" "as_wish" (defArgs s_as_wish) (defBody s_as_wish) (defScope s_as_wish) .none kV_as_wish dc_as_wish pm_as_wish an_as_wish cd_as_wish ct_as_wish), sl_as_wish⟩)
    (x3_as_wish : PySem.W.codeIn K cd_as_wish "as_wish" = true) (x4_as_wish : PySem.W.keepIn K (.ref f_as_wish) = true)
    {f_Meal___init__ : Addr} {od_Meal___init__ an_Meal___init__ : Option Addr} {sl_Meal___init__ : Array (Option Value)} {oc_Meal___init__ kV_Meal___init__ dc_Meal___init__ pm_Meal___init__ cd_Meal___init__ ct_Meal___init__ : Value} {T_Meal___init__ : Addr}
    (x1_Meal___init__ : PySem.W.findIn K (.ref c_Meal) "__init__" = some (some (.ref f_Meal___init__))) (x5_Meal___init__ : PySem.W.isFn K (.ref f_Meal___init__) = true)
    (x2_Meal___init__ : K.lookup f_Meal___init__ = some ⟨oc_Meal___init__, od_Meal___init__, .func (PySem.W.fnOf "__init__" "Meal.__init__" (defArgs s_Meal___init__) (defBody s_Meal___init__) (defScope s_Meal___init__) (.ref T_Meal___init__) kV_Meal___init__ dc_Meal___init__ pm_Meal___init__ an_Meal___init__ cd_Meal___init__ ct_Meal___init__), sl_Meal___init__⟩)
    (x3_Meal___init__ : PySem.W.codeIn K cd_Meal___init__ "Meal.__init__" = true) (x4_Meal___init__ : PySem.W.keepIn K (.ref f_Meal___init__) = true)
    {f_Meal_wishes : Addr} {od_Meal_wishes an_Meal_wishes : Option Addr} {sl_Meal_wishes : Array (Option Value)} {oc_Meal_wishes kV_Meal_wishes dc_Meal_wishes pm_Meal_wishes cd_Meal_wishes ct_Meal_wishes : Value}
    (x1_Meal_wishes : PySem.W.findIn K (.ref c_Meal) "wishes" = some (some (.ref f_Meal_wishes))) (x5_Meal_wishes : PySem.W.isFn K (.ref f_Meal_wishes) = true)
    (x2_Meal_wishes : K.lookup f_Meal_wishes = some ⟨oc_Meal_wishes, od_Meal_wishes, .func (PySem.W.fnOf "wishes" "Meal.wishes" (defArgs s_Meal_wishes) (defBody s_Meal_wishes) (defScope s_Meal_wishes) .none kV_Meal_wishes dc_Meal_wishes pm_Meal_wishes an_Meal_wishes cd_Meal_wishes ct_Meal_wishes), sl_Meal_wishes⟩)
    (x3_Meal_wishes : PySem.W.codeIn K cd_Meal_wishes "Meal.wishes" = true) (x4_Meal_wishes : PySem.W.keepIn K (.ref f_Meal_wishes) = true)
    {f_check_dishes : Addr} {od_check_dishes an_check_dishes : Option Addr} {sl_check_dishes : Array (Option Value)} {oc_check_dishes kV_check_dishes dc_check_dishes pm_check_dishes cd_check_dishes ct_check_dishes : Value}
    (x1_check_dishes : PySem.W.nsIn K mainGlobals "check_dishes" = some (some (.ref f_check_dishes)))
    (x2_check_dishes : K.lookup f_check_dishes = some ⟨oc_check_dishes, od_check_dishes, .func (PySem.W.fnOf "check_dishes" "check_dishes" (defArgs s_check_dishes) (defBody s_check_dishes) (defScope s_check_dishes) .none kV_check_dishes dc_check_dishes pm_check_dishes an_check_dishes cd_check_dishes ct_check_dishes), sl_check_dishes⟩)
    (x3_check_dishes : PySem.W.codeIn K cd_check_dishes "check_dishes" = true) (x4_check_dishes : PySem.W.keepIn K (.ref f_check_dishes) = true)
    {f_check_wishes : Addr} {od_check_wishes an_check_wishes : Option Addr} {sl_check_wishes : Array (Option Value)} {oc_check_wishes kV_check_wishes dc_check_wishes pm_check_wishes cd_check_wishes ct_check_wishes : Value}
    (x1_check_wishes : PySem.W.nsIn K mainGlobals "check_wishes" = some (some (.ref f_check_wishes)))
    (x2_check_wishes : K.lookup f_check_wishes = some ⟨oc_check_wishes, od_check_wishes, .func (PySem.W.fnOf "check_wishes" "check_wishes" (defArgs s_check_wishes) (defBody s_check_wishes) (defScope s_check_wishes) .none kV_check_wishes dc_check_wishes pm_check_wishes an_check_wishes cd_check_wishes ct_check_wishes), sl_check_wishes⟩)
    (x3_check_wishes : PySem.W.codeIn K cd_check_wishes "check_wishes" = true) (x4_check_wishes : PySem.W.keepIn K (.ref f_check_wishes) = true)
    {f_check_stations : Addr} {od_check_stations an_check_stations : Option Addr} {sl_check_stations : Array (Option Value)} {oc_check_stations kV_check_stations dc_check_stations pm_check_stations cd_check_stations ct_check_stations : Value}
    (x1_check_stations : PySem.W.nsIn K mainGlobals "check_stations" = some (some (.ref f_check_stations)))
    (x2_check_stations : K.lookup f_check_stations = some ⟨oc_check_stations, od_check_stations, .func (PySem.W.fnOf "check_stations" "check_stations" (defArgs s_check_stations) (defBody s_check_stations) (defScope s_check_stations) .none kV_check_stations dc_check_stations pm_check_stations an_check_stations cd_check_stations ct_check_stations), sl_check_stations⟩)
    (x3_check_stations : PySem.W.codeIn K cd_check_stations "check_stations" = true) (x4_check_stations : PySem.W.keepIn K (.ref f_check_stations) = true)
    {f_together : Addr} {od_together an_together : Option Addr} {sl_together : Array (Option Value)} {oc_together kV_together dc_together pm_together cd_together ct_together : Value}
    (x1_together : PySem.W.nsIn K mainGlobals "together" = some (some (.ref f_together)))
    (x2_together : K.lookup f_together = some ⟨oc_together, od_together, .func (PySem.W.fnOf "together" "together" (defArgs s_together) (defBody s_together) (defScope s_together) .none kV_together dc_together pm_together an_together cd_together ct_together), sl_together⟩)
    (x3_together : PySem.W.codeIn K cd_together "together" = true) (x4_together : PySem.W.keepIn K (.ref f_together) = true)
    {f_keeping : Addr} {od_keeping an_keeping : Option Addr} {sl_keeping : Array (Option Value)} {oc_keeping kV_keeping dc_keeping pm_keeping cd_keeping ct_keeping : Value}
    (x1_keeping : PySem.W.nsIn K mainGlobals "keeping" = some (some (.ref f_keeping)))
    (x2_keeping : K.lookup f_keeping = some ⟨oc_keeping, od_keeping, .func (PySem.W.fnOf "keeping" "keeping" (defArgs s_keeping) (defBody s_keeping) (defScope s_keeping) .none kV_keeping dc_keeping pm_keeping an_keeping cd_keeping ct_keeping), sl_keeping⟩)
    (x3_keeping : PySem.W.codeIn K cd_keeping "keeping" = true) (x4_keeping : PySem.W.keepIn K (.ref f_keeping) = true)
    {f_ready_by : Addr} {od_ready_by an_ready_by : Option Addr} {sl_ready_by : Array (Option Value)} {oc_ready_by kV_ready_by dc_ready_by pm_ready_by cd_ready_by ct_ready_by : Value}
    (x1_ready_by : PySem.W.nsIn K mainGlobals "ready_by" = some (some (.ref f_ready_by)))
    (x2_ready_by : K.lookup f_ready_by = some ⟨oc_ready_by, od_ready_by, .func (PySem.W.fnOf "ready_by" "ready_by" (defArgs s_ready_by) (defBody s_ready_by) (defScope s_ready_by) .none kV_ready_by dc_ready_by pm_ready_by an_ready_by cd_ready_by ct_ready_by), sl_ready_by⟩)
    (x3_ready_by : PySem.W.codeIn K cd_ready_by "ready_by" = true) (x4_ready_by : PySem.W.keepIn K (.ref f_ready_by) = true)
    {f_behind : Addr} {od_behind an_behind : Option Addr} {sl_behind : Array (Option Value)} {oc_behind kV_behind dc_behind pm_behind cd_behind ct_behind : Value}
    (x1_behind : PySem.W.nsIn K mainGlobals "behind" = some (some (.ref f_behind)))
    (x2_behind : K.lookup f_behind = some ⟨oc_behind, od_behind, .func (PySem.W.fnOf "behind" "behind" (defArgs s_behind) (defBody s_behind) (defScope s_behind) .none kV_behind dc_behind pm_behind an_behind cd_behind ct_behind), sl_behind⟩)
    (x3_behind : PySem.W.codeIn K cd_behind "behind" = true) (x4_behind : PySem.W.keepIn K (.ref f_behind) = true)
    {f__law_fresh : Addr} {od__law_fresh an__law_fresh : Option Addr} {sl__law_fresh : Array (Option Value)} {oc__law_fresh kV__law_fresh dc__law_fresh pm__law_fresh cd__law_fresh ct__law_fresh : Value}
    (x1__law_fresh : PySem.W.nsIn K mainGlobals "_law_fresh" = some (some (.ref f__law_fresh)))
    (x2__law_fresh : K.lookup f__law_fresh = some ⟨oc__law_fresh, od__law_fresh, .func (PySem.W.fnOf "_law_fresh" "_law_fresh" (defArgs s__law_fresh) (defBody s__law_fresh) (defScope s__law_fresh) .none kV__law_fresh dc__law_fresh pm__law_fresh an__law_fresh cd__law_fresh ct__law_fresh), sl__law_fresh⟩)
    (x3__law_fresh : PySem.W.codeIn K cd__law_fresh "_law_fresh" = true) (x4__law_fresh : PySem.W.keepIn K (.ref f__law_fresh) = true)
    {f__law_take : Addr} {od__law_take an__law_take : Option Addr} {sl__law_take : Array (Option Value)} {oc__law_take kV__law_take dc__law_take pm__law_take cd__law_take ct__law_take : Value}
    (x1__law_take : PySem.W.nsIn K mainGlobals "_law_take" = some (some (.ref f__law_take)))
    (x2__law_take : K.lookup f__law_take = some ⟨oc__law_take, od__law_take, .func (PySem.W.fnOf "_law_take" "_law_take" (defArgs s__law_take) (defBody s__law_take) (defScope s__law_take) .none kV__law_take dc__law_take pm__law_take an__law_take cd__law_take ct__law_take), sl__law_take⟩)
    (x3__law_take : PySem.W.codeIn K cd__law_take "_law_take" = true) (x4__law_take : PySem.W.keepIn K (.ref f__law_take) = true)
    {f__law_one : Addr} {od__law_one an__law_one : Option Addr} {sl__law_one : Array (Option Value)} {oc__law_one kV__law_one dc__law_one pm__law_one cd__law_one ct__law_one : Value}
    (x1__law_one : PySem.W.nsIn K mainGlobals "_law_one" = some (some (.ref f__law_one)))
    (x2__law_one : K.lookup f__law_one = some ⟨oc__law_one, od__law_one, .func (PySem.W.fnOf "_law_one" "_law_one" (defArgs s__law_one) (defBody s__law_one) (defScope s__law_one) .none kV__law_one dc__law_one pm__law_one an__law_one cd__law_one ct__law_one), sl__law_one⟩)
    (x3__law_one : PySem.W.codeIn K cd__law_one "_law_one" = true) (x4__law_one : PySem.W.keepIn K (.ref f__law_one) = true)
    {f__law_mix : Addr} {od__law_mix an__law_mix : Option Addr} {sl__law_mix : Array (Option Value)} {oc__law_mix kV__law_mix dc__law_mix pm__law_mix cd__law_mix ct__law_mix : Value}
    (x1__law_mix : PySem.W.nsIn K mainGlobals "_law_mix" = some (some (.ref f__law_mix)))
    (x2__law_mix : K.lookup f__law_mix = some ⟨oc__law_mix, od__law_mix, .func (PySem.W.fnOf "_law_mix" "_law_mix" (defArgs s__law_mix) (defBody s__law_mix) (defScope s__law_mix) .none kV__law_mix dc__law_mix pm__law_mix an__law_mix cd__law_mix ct__law_mix), sl__law_mix⟩)
    (x3__law_mix : PySem.W.codeIn K cd__law_mix "_law_mix" = true) (x4__law_mix : PySem.W.keepIn K (.ref f__law_mix) = true)
    {f__law_some : Addr} {od__law_some an__law_some : Option Addr} {sl__law_some : Array (Option Value)} {oc__law_some kV__law_some dc__law_some pm__law_some cd__law_some ct__law_some : Value}
    (x1__law_some : PySem.W.nsIn K mainGlobals "_law_some" = some (some (.ref f__law_some)))
    (x2__law_some : K.lookup f__law_some = some ⟨oc__law_some, od__law_some, .func (PySem.W.fnOf "_law_some" "_law_some" (defArgs s__law_some) (defBody s__law_some) (defScope s__law_some) .none kV__law_some dc__law_some pm__law_some an__law_some cd__law_some ct__law_some), sl__law_some⟩)
    (x3__law_some : PySem.W.codeIn K cd__law_some "_law_some" = true) (x4__law_some : PySem.W.keepIn K (.ref f__law_some) = true)
    {f__law_same : Addr} {od__law_same an__law_same : Option Addr} {sl__law_same : Array (Option Value)} {oc__law_same kV__law_same dc__law_same pm__law_same cd__law_same ct__law_same : Value}
    (x1__law_same : PySem.W.nsIn K mainGlobals "_law_same" = some (some (.ref f__law_same)))
    (x2__law_same : K.lookup f__law_same = some ⟨oc__law_same, od__law_same, .func (PySem.W.fnOf "_law_same" "_law_same" (defArgs s__law_same) (defBody s__law_same) (defScope s__law_same) .none kV__law_same dc__law_same pm__law_same an__law_same cd__law_same ct__law_same), sl__law_same⟩)
    (x3__law_same : PySem.W.codeIn K cd__law_same "_law_same" = true) (x4__law_same : PySem.W.keepIn K (.ref f__law_same) = true)
    {f__law_names : Addr} {od__law_names an__law_names : Option Addr} {sl__law_names : Array (Option Value)} {oc__law_names kV__law_names dc__law_names pm__law_names cd__law_names ct__law_names : Value}
    (x1__law_names : PySem.W.nsIn K mainGlobals "_law_names" = some (some (.ref f__law_names)))
    (x2__law_names : K.lookup f__law_names = some ⟨oc__law_names, od__law_names, .func (PySem.W.fnOf "_law_names" "_law_names" (defArgs s__law_names) (defBody s__law_names) (defScope s__law_names) .none kV__law_names dc__law_names pm__law_names an__law_names cd__law_names ct__law_names), sl__law_names⟩)
    (x3__law_names : PySem.W.codeIn K cd__law_names "_law_names" = true) (x4__law_names : PySem.W.keepIn K (.ref f__law_names) = true)
    {f__law_together : Addr} {od__law_together an__law_together : Option Addr} {sl__law_together : Array (Option Value)} {oc__law_together kV__law_together dc__law_together pm__law_together cd__law_together ct__law_together : Value}
    (x1__law_together : PySem.W.nsIn K mainGlobals "_law_together" = some (some (.ref f__law_together)))
    (x2__law_together : K.lookup f__law_together = some ⟨oc__law_together, od__law_together, .func (PySem.W.fnOf "_law_together" "_law_together" (defArgs s__law_together) (defBody s__law_together) (defScope s__law_together) .none kV__law_together dc__law_together pm__law_together an__law_together cd__law_together ct__law_together), sl__law_together⟩)
    (x3__law_together : PySem.W.codeIn K cd__law_together "_law_together" = true) (x4__law_together : PySem.W.keepIn K (.ref f__law_together) = true)
    {f_law : Addr} {od_law an_law : Option Addr} {sl_law : Array (Option Value)} {oc_law kV_law dc_law pm_law cd_law ct_law : Value}
    (x1_law : PySem.W.nsIn K mainGlobals "law" = some (some (.ref f_law)))
    (x2_law : K.lookup f_law = some ⟨oc_law, od_law, .func (PySem.W.fnOf "law" "law" (defArgs s_law) (defBody s_law) (defScope s_law) .none kV_law dc_law pm_law an_law cd_law ct_law), sl_law⟩)
    (x3_law : PySem.W.codeIn K cd_law "law" = true) (x4_law : PySem.W.keepIn K (.ref f_law) = true)
    {t_CLOCK : Tok} (x1_CLOCK : PySem.W.nsIn K mainGlobals "CLOCK" = some (some (.str "clock" t_CLOCK)))
    {t_LETTERS : Tok} (x1_LETTERS : PySem.W.nsIn K mainGlobals "LETTERS" = some (some (.str "abcdefghijklmnopqrstuvwxyz" t_LETTERS)))
    {t_LONGEST_NAME : Tok} (x1_LONGEST_NAME : PySem.W.nsIn K mainGlobals "LONGEST_NAME" = some (some (.int 8 t_LONGEST_NAME)))
    (x1_len : PySem.W.nsIn K mainGlobals "len" = some none)
    (x1_abs : PySem.W.nsIn K mainGlobals "abs" = some none)
    (x1_int : PySem.W.nsIn K mainGlobals "int" = some none)
    (x1_list : PySem.W.nsIn K mainGlobals "list" = some none)
    (x1_tuple : PySem.W.nsIn K mainGlobals "tuple" = some none)
    (x1_bool : PySem.W.nsIn K mainGlobals "bool" = some none)
    (x1_str : PySem.W.nsIn K mainGlobals "str" = some none)
    (x1_dict : PySem.W.nsIn K mainGlobals "dict" = some none)
    (x1_isinstance : PySem.W.nsIn K mainGlobals "isinstance" = some none)
    (x1_all : PySem.W.nsIn K mainGlobals "all" = some none)
    (x1_zip : PySem.W.nsIn K mainGlobals "zip" = some none)
    (x1_enumerate : PySem.W.nsIn K mainGlobals "enumerate" = some none)
    (x1_range : PySem.W.nsIn K mainGlobals "range" = some none)
    (x1_sorted : PySem.W.nsIn K mainGlobals "sorted" = some none)
    {E0 S0 W0 : Addr} {odT odS odE : Option Addr} {ocT : Value} {nT nS nE : Nat} {slT slS slE : Array (Option Value)} {tE1 tE2 : Tok}
    (xT : K.lookup T_Meal___init__ = some ⟨ocT, odT, .seq #[.ref W0, .ref S0] nT, slT⟩)
    (xS : K.lookup S0 = some ⟨.type "tuple", odS, .seq #[] nS, slS⟩)
    (xE1 : PySem.W.nsIn K mainGlobals "EDGES" = some (some (.ref E0)))
    (xE2 : K.lookup E0 = some ⟨.type "tuple", odE, .seq #[.str "start" tE1, .str "done" tE2] nE, slE⟩)
    : ∃ fd : FuncData, (∀ (s : Shared) (v : Value), BindsTo s fd ⟨[v], []⟩ [("_law_script", v)]) ∧ ∀ base : Heap, K.In base → base.Ns mainGlobals mg → FnOk l.prog w K mg base CX0 8 fa fd ["_law_script"] (spLaw K) := by
  have e := hfa.symm.trans (PySem.W.mg_of X G x1_law)
  cases e
  have F_is_integer := fun_mk (st := s_is_integer) x2_is_integer x3_is_integer x4_is_integer
  have F_is_list := fun_mk (st := s_is_list) x2_is_list x3_is_list x4_is_list
  have F_is_name := fun_mk (st := s_is_name) x2_is_name x3_is_name x4_is_name
  have F_is_dish := fun_mk (st := s_is_dish) x2_is_dish x3_is_dish x4_is_dish
  have F_is_bounds := fun_mk (st := s_is_bounds) x2_is_bounds x3_is_bounds x4_is_bounds
  have F_is_moment := fun_mk (st := s_is_moment) x2_is_moment x3_is_moment x4_is_moment
  have F_is_wish := fun_mk (st := s_is_wish) x2_is_wish x3_is_wish x4_is_wish
  have F_as_moment := fun_mk (st := s_as_moment) x2_as_moment x3_as_moment x4_as_moment
  have F_as_wish := fun_mk (st := s_as_wish) x2_as_wish x3_as_wish x4_as_wish
  have F_Meal_wishes := fun_mk (st := s_Meal_wishes) x2_Meal_wishes x3_Meal_wishes x4_Meal_wishes
  have F_check_dishes := fun_mk (st := s_check_dishes) x2_check_dishes x3_check_dishes x4_check_dishes
  have F_check_wishes := fun_mk (st := s_check_wishes) x2_check_wishes x3_check_wishes x4_check_wishes
  have F_check_stations := fun_mk (st := s_check_stations) x2_check_stations x3_check_stations x4_check_stations
  have F_together := fun_mk (st := s_together) x2_together x3_together x4_together
  have F_keeping := fun_mk (st := s_keeping) x2_keeping x3_keeping x4_keeping
  have F_ready_by := fun_mk (st := s_ready_by) x2_ready_by x3_ready_by x4_ready_by
  have F_behind := fun_mk (st := s_behind) x2_behind x3_behind x4_behind
  have F__law_fresh := fun_mk (st := s__law_fresh) x2__law_fresh x3__law_fresh x4__law_fresh
  have F__law_take := fun_mk (st := s__law_take) x2__law_take x3__law_take x4__law_take
  have F__law_one := fun_mk (st := s__law_one) x2__law_one x3__law_one x4__law_one
  have F__law_mix := fun_mk (st := s__law_mix) x2__law_mix x3__law_mix x4__law_mix
  have F__law_some := fun_mk (st := s__law_some) x2__law_some x3__law_some x4__law_some
  have F__law_same := fun_mk (st := s__law_same) x2__law_same x3__law_same x4__law_same
  have F__law_names := fun_mk (st := s__law_names) x2__law_names x3__law_names x4__law_names
  have F__law_together := fun_mk (st := s__law_together) x2__law_together x3__law_together x4__law_together
  have F_law := fun_mk (st := s_law) x2_law x3_law x4_law
  have F_Meal___init__ : FunD K "__init__" "Meal.__init__" (defArgs s_Meal___init__) (defBody s_Meal___init__) (defScope s_Meal___init__) [.ref W0, .ref S0] [] f_Meal___init__ (PySem.W.fnOf "__init__" "Meal.__init__" (defArgs s_Meal___init__) (defBody s_Meal___init__) (defScope s_Meal___init__) (.ref T_Meal___init__) kV_Meal___init__ dc_Meal___init__ pm_Meal___init__ an_Meal___init__ cd_Meal___init__ ct_Meal___init__) :=
    ⟨⟨_, _, _, _, _, _, _, _, _, _, rfl, x2_Meal___init__, x3_Meal___init__, .inr ⟨by simp, _, _, [.ref W0, .ref S0], nT, rfl, xT, rfl, .cons rfl (.cons rfl .nil)⟩, .inl rfl⟩, x4_Meal___init__⟩
  have T : Txt K mg ({ a_is_integer := f_is_integer, d_is_integer := (PySem.W.fnOf "is_integer" "is_integer" (defArgs s_is_integer) (defBody s_is_integer) (defScope s_is_integer) .none kV_is_integer dc_is_integer pm_is_integer an_is_integer cd_is_integer ct_is_integer), a_is_list := f_is_list, d_is_list := (PySem.W.fnOf "is_list" "is_list" (defArgs s_is_list) (defBody s_is_list) (defScope s_is_list) .none kV_is_list dc_is_list pm_is_list an_is_list cd_is_list ct_is_list), a_is_name := f_is_name, d_is_name := (PySem.W.fnOf "is_name" "is_name" (defArgs s_is_name) (defBody s_is_name) (defScope s_is_name) .none kV_is_name dc_is_name pm_is_name an_is_name cd_is_name ct_is_name), a_is_dish := f_is_dish, d_is_dish := (PySem.W.fnOf "is_dish" "is_dish" (defArgs s_is_dish) (defBody s_is_dish) (defScope s_is_dish) .none kV_is_dish dc_is_dish pm_is_dish an_is_dish cd_is_dish ct_is_dish), a_is_bounds := f_is_bounds, d_is_bounds := (PySem.W.fnOf "is_bounds" "is_bounds" (defArgs s_is_bounds) (defBody s_is_bounds) (defScope s_is_bounds) .none kV_is_bounds dc_is_bounds pm_is_bounds an_is_bounds cd_is_bounds ct_is_bounds), a_is_moment := f_is_moment, d_is_moment := (PySem.W.fnOf "is_moment" "is_moment" (defArgs s_is_moment) (defBody s_is_moment) (defScope s_is_moment) .none kV_is_moment dc_is_moment pm_is_moment an_is_moment cd_is_moment ct_is_moment), a_is_wish := f_is_wish, d_is_wish := (PySem.W.fnOf "is_wish" "is_wish" (defArgs s_is_wish) (defBody s_is_wish) (defScope s_is_wish) .none kV_is_wish dc_is_wish pm_is_wish an_is_wish cd_is_wish ct_is_wish), a_as_moment := f_as_moment, d_as_moment := (PySem.W.fnOf "as_moment" "as_moment" (defArgs s_as_moment) (defBody s_as_moment) (defScope s_as_moment) .none kV_as_moment dc_as_moment pm_as_moment an_as_moment cd_as_moment ct_as_moment), a_as_wish := f_as_wish, d_as_wish := (PySem.W.fnOf "as_wish" "as_wish" (defArgs s_as_wish) (defBody s_as_wish) (defScope s_as_wish) .none kV_as_wish dc_as_wish pm_as_wish an_as_wish cd_as_wish ct_as_wish), a_Meal___init__ := f_Meal___init__, d_Meal___init__ := (PySem.W.fnOf "__init__" "Meal.__init__" (defArgs s_Meal___init__) (defBody s_Meal___init__) (defScope s_Meal___init__) (.ref T_Meal___init__) kV_Meal___init__ dc_Meal___init__ pm_Meal___init__ an_Meal___init__ cd_Meal___init__ ct_Meal___init__), a_Meal_wishes := f_Meal_wishes, d_Meal_wishes := (PySem.W.fnOf "wishes" "Meal.wishes" (defArgs s_Meal_wishes) (defBody s_Meal_wishes) (defScope s_Meal_wishes) .none kV_Meal_wishes dc_Meal_wishes pm_Meal_wishes an_Meal_wishes cd_Meal_wishes ct_Meal_wishes), a_check_dishes := f_check_dishes, d_check_dishes := (PySem.W.fnOf "check_dishes" "check_dishes" (defArgs s_check_dishes) (defBody s_check_dishes) (defScope s_check_dishes) .none kV_check_dishes dc_check_dishes pm_check_dishes an_check_dishes cd_check_dishes ct_check_dishes), a_check_wishes := f_check_wishes, d_check_wishes := (PySem.W.fnOf "check_wishes" "check_wishes" (defArgs s_check_wishes) (defBody s_check_wishes) (defScope s_check_wishes) .none kV_check_wishes dc_check_wishes pm_check_wishes an_check_wishes cd_check_wishes ct_check_wishes), a_check_stations := f_check_stations, d_check_stations := (PySem.W.fnOf "check_stations" "check_stations" (defArgs s_check_stations) (defBody s_check_stations) (defScope s_check_stations) .none kV_check_stations dc_check_stations pm_check_stations an_check_stations cd_check_stations ct_check_stations), a_together := f_together, d_together := (PySem.W.fnOf "together" "together" (defArgs s_together) (defBody s_together) (defScope s_together) .none kV_together dc_together pm_together an_together cd_together ct_together), a_keeping := f_keeping, d_keeping := (PySem.W.fnOf "keeping" "keeping" (defArgs s_keeping) (defBody s_keeping) (defScope s_keeping) .none kV_keeping dc_keeping pm_keeping an_keeping cd_keeping ct_keeping), a_ready_by := f_ready_by, d_ready_by := (PySem.W.fnOf "ready_by" "ready_by" (defArgs s_ready_by) (defBody s_ready_by) (defScope s_ready_by) .none kV_ready_by dc_ready_by pm_ready_by an_ready_by cd_ready_by ct_ready_by), a_behind := f_behind, d_behind := (PySem.W.fnOf "behind" "behind" (defArgs s_behind) (defBody s_behind) (defScope s_behind) .none kV_behind dc_behind pm_behind an_behind cd_behind ct_behind), a__law_fresh := f__law_fresh, d__law_fresh := (PySem.W.fnOf "_law_fresh" "_law_fresh" (defArgs s__law_fresh) (defBody s__law_fresh) (defScope s__law_fresh) .none kV__law_fresh dc__law_fresh pm__law_fresh an__law_fresh cd__law_fresh ct__law_fresh), a__law_take := f__law_take, d__law_take := (PySem.W.fnOf "_law_take" "_law_take" (defArgs s__law_take) (defBody s__law_take) (defScope s__law_take) .none kV__law_take dc__law_take pm__law_take an__law_take cd__law_take ct__law_take), a__law_one := f__law_one, d__law_one := (PySem.W.fnOf "_law_one" "_law_one" (defArgs s__law_one) (defBody s__law_one) (defScope s__law_one) .none kV__law_one dc__law_one pm__law_one an__law_one cd__law_one ct__law_one), a__law_mix := f__law_mix, d__law_mix := (PySem.W.fnOf "_law_mix" "_law_mix" (defArgs s__law_mix) (defBody s__law_mix) (defScope s__law_mix) .none kV__law_mix dc__law_mix pm__law_mix an__law_mix cd__law_mix ct__law_mix), a__law_some := f__law_some, d__law_some := (PySem.W.fnOf "_law_some" "_law_some" (defArgs s__law_some) (defBody s__law_some) (defScope s__law_some) .none kV__law_some dc__law_some pm__law_some an__law_some cd__law_some ct__law_some), a__law_same := f__law_same, d__law_same := (PySem.W.fnOf "_law_same" "_law_same" (defArgs s__law_same) (defBody s__law_same) (defScope s__law_same) .none kV__law_same dc__law_same pm__law_same an__law_same cd__law_same ct__law_same), a__law_names := f__law_names, d__law_names := (PySem.W.fnOf "_law_names" "_law_names" (defArgs s__law_names) (defBody s__law_names) (defScope s__law_names) .none kV__law_names dc__law_names pm__law_names an__law_names cd__law_names ct__law_names), a__law_together := f__law_together, d__law_together := (PySem.W.fnOf "_law_together" "_law_together" (defArgs s__law_together) (defBody s__law_together) (defScope s__law_together) .none kV__law_together dc__law_together pm__law_together an__law_together cd__law_together ct__law_together), a_law := fa, d_law := (PySem.W.fnOf "law" "law" (defArgs s_law) (defBody s_law) (defScope s_law) .none kV_law dc_law pm_law an_law cd_law ct_law), a_Meal := c_Meal, a_EDGES := E0, a_W0 := W0, a_S0 := S0 } : Ad) := {
    f_is_integer := F_is_integer
    g_is_integer := PySem.W.mg_of X G x1_is_integer
    b_is_integer := F_is_integer.binds fun _ _ _ _ _ _ us hl => match us, hl with | [_], _ => rfl
    f_is_list := F_is_list
    g_is_list := PySem.W.mg_of X G x1_is_list
    b_is_list := F_is_list.binds fun _ _ _ _ _ _ us hl => match us, hl with | [_], _ => rfl
    f_is_name := F_is_name
    g_is_name := PySem.W.mg_of X G x1_is_name
    b_is_name := F_is_name.binds fun _ _ _ _ _ _ us hl => match us, hl with | [_], _ => rfl
    f_is_dish := F_is_dish
    g_is_dish := PySem.W.mg_of X G x1_is_dish
    b_is_dish := F_is_dish.binds fun _ _ _ _ _ _ us hl => match us, hl with | [_, _], _ => rfl
    f_is_bounds := F_is_bounds
    g_is_bounds := PySem.W.mg_of X G x1_is_bounds
    b_is_bounds := F_is_bounds.binds fun _ _ _ _ _ _ us hl => match us, hl with | [_], _ => rfl
    f_is_moment := F_is_moment
    g_is_moment := PySem.W.mg_of X G x1_is_moment
    b_is_moment := F_is_moment.binds fun _ _ _ _ _ _ us hl => match us, hl with | [_, _], _ => rfl
    f_is_wish := F_is_wish
    g_is_wish := PySem.W.mg_of X G x1_is_wish
    b_is_wish := F_is_wish.binds fun _ _ _ _ _ _ us hl => match us, hl with | [_, _], _ => rfl
    f_as_moment := F_as_moment
    g_as_moment := PySem.W.mg_of X G x1_as_moment
    b_as_moment := F_as_moment.binds fun _ _ _ _ _ _ us hl => match us, hl with | [_], _ => rfl
    f_as_wish := F_as_wish
    g_as_wish := PySem.W.mg_of X G x1_as_wish
    b_as_wish := F_as_wish.binds fun _ _ _ _ _ _ us hl => match us, hl with | [_], _ => rfl
    f_Meal___init__ := F_Meal___init__
    f_Meal_wishes := F_Meal_wishes
    b_Meal_wishes := F_Meal_wishes.binds fun _ _ _ _ _ _ us hl => match us, hl with | [_], _ => rfl
    f_check_dishes := F_check_dishes
    g_check_dishes := PySem.W.mg_of X G x1_check_dishes
    b_check_dishes := F_check_dishes.binds fun _ _ _ _ _ _ us hl => match us, hl with | [_], _ => rfl
    f_check_wishes := F_check_wishes
    g_check_wishes := PySem.W.mg_of X G x1_check_wishes
    b_check_wishes := F_check_wishes.binds fun _ _ _ _ _ _ us hl => match us, hl with | [_, _], _ => rfl
    f_check_stations := F_check_stations
    g_check_stations := PySem.W.mg_of X G x1_check_stations
    b_check_stations := F_check_stations.binds fun _ _ _ _ _ _ us hl => match us, hl with | [_, _], _ => rfl
    f_together := F_together
    g_together := PySem.W.mg_of X G x1_together
    b_together := F_together.binds fun _ _ _ _ _ _ us hl => match us, hl with | [_, _], _ => rfl
    f_keeping := F_keeping
    g_keeping := PySem.W.mg_of X G x1_keeping
    b_keeping := F_keeping.binds fun _ _ _ _ _ _ us hl => match us, hl with | [_, _, _], _ => rfl
    f_ready_by := F_ready_by
    g_ready_by := PySem.W.mg_of X G x1_ready_by
    b_ready_by := F_ready_by.binds fun _ _ _ _ _ _ us hl => match us, hl with | [_, _], _ => rfl
    f_behind := F_behind
    g_behind := PySem.W.mg_of X G x1_behind
    b_behind := F_behind.binds fun _ _ _ _ _ _ us hl => match us, hl with | [_, _, _], _ => rfl
    f__law_fresh := F__law_fresh
    g__law_fresh := PySem.W.mg_of X G x1__law_fresh
    b__law_fresh := F__law_fresh.binds fun _ _ _ _ _ _ us hl => match us, hl with | [_], _ => rfl
    f__law_take := F__law_take
    g__law_take := PySem.W.mg_of X G x1__law_take
    b__law_take := F__law_take.binds fun _ _ _ _ _ _ us hl => match us, hl with | [_, _], _ => rfl
    f__law_one := F__law_one
    g__law_one := PySem.W.mg_of X G x1__law_one
    b__law_one := F__law_one.binds fun _ _ _ _ _ _ us hl => match us, hl with | [_, _], _ => rfl
    f__law_mix := F__law_mix
    g__law_mix := PySem.W.mg_of X G x1__law_mix
    b__law_mix := F__law_mix.binds fun _ _ _ _ _ _ us hl => match us, hl with | [_, _], _ => rfl
    f__law_some := F__law_some
    g__law_some := PySem.W.mg_of X G x1__law_some
    b__law_some := F__law_some.binds fun _ _ _ _ _ _ us hl => match us, hl with | [_, _], _ => rfl
    f__law_same := F__law_same
    g__law_same := PySem.W.mg_of X G x1__law_same
    b__law_same := F__law_same.binds fun _ _ _ _ _ _ us hl => match us, hl with | [_, _], _ => rfl
    f__law_names := F__law_names
    g__law_names := PySem.W.mg_of X G x1__law_names
    b__law_names := F__law_names.binds fun _ _ _ _ _ _ us hl => match us, hl with | [_, _], _ => rfl
    f__law_together := F__law_together
    g__law_together := PySem.W.mg_of X G x1__law_together
    b__law_together := F__law_together.binds fun _ _ _ _ _ _ us hl => match us, hl with | [_, _], _ => rfl
    f_law := F_law
    g_law := PySem.W.mg_of X G x1_law
    b_law := F_law.binds fun _ _ _ _ _ _ us hl => match us, hl with | [_], _ => rfl
    g_CLOCK := ⟨_, PySem.W.mg_of X G x1_CLOCK⟩
    g_LETTERS := ⟨_, PySem.W.mg_of X G x1_LETTERS⟩
    g_LONGEST_NAME := ⟨_, PySem.W.mg_of X G x1_LONGEST_NAME⟩
    len := PySem.W.mg_none_of X G x1_len
    abs := PySem.W.mg_none_of X G x1_abs
    int := PySem.W.mg_none_of X G x1_int
    list := PySem.W.mg_none_of X G x1_list
    tuple := PySem.W.mg_none_of X G x1_tuple
    bool := PySem.W.mg_none_of X G x1_bool
    str := PySem.W.mg_none_of X G x1_str
    dict := PySem.W.mg_none_of X G x1_dict
    isinstance := PySem.W.mg_none_of X G x1_isinstance
    all := PySem.W.mg_none_of X G x1_all
    zip := PySem.W.mg_none_of X G x1_zip
    enumerate := PySem.W.mg_none_of X G x1_enumerate
    range := PySem.W.mg_none_of X G x1_range
    sorted := PySem.W.mg_none_of X G x1_sorted
    g_EDGES := PySem.W.mg_of X G xE1
    t_EDGES := .inr ⟨_, _, _, xE2, rfl, rfl, by show 2 ≤ sizeLine; decide, .cons ⟨_, rfl⟩ (.cons ⟨_, rfl⟩ .nil)⟩
    cl := ⟨y2_Meal, y3_Meal, y4_Meal, y5_Meal⟩
    nB := z_Meal_bounds
    nW := z_Meal_wished
    nP := z_Meal_places
    g_Meal := PySem.W.mg_of X G y1_Meal
    mkM := ⟨y6_Meal, x1_Meal___init__, x5_Meal___init__, y7_Meal⟩
    m_wishes := ⟨x1_Meal_wishes, x5_Meal_wishes, x4_Meal_wishes⟩
    e0 := .inr ⟨_, _, _, xS, rfl, rfl, Nat.zero_le _, .nil⟩
    b_Meal___init__ := F_Meal___init__.binds1 3 1 (by simp) rfl fun _ _ _ _ _ _ _ us its hu hi => match us, its, hu, hi with | [_, _, _], [_, _], _, _ => ⟨_, rfl, rfl⟩ }
  exact ⟨_, fun s v => .of_eq rfl, fun base _ _ => ok_law T⟩
theorem walk {l : PySem.W.OpenLaw} {q : Program} {loose : List Str} {XP : (Str → Option Value) → Heap → Prop} {YP : World → Heap → Prop} {d : DefRec} {K : Params → PySem.W.Frag} (hn : l.most = some 63) (hdf : d.params.defaults = [])
    (hY : ∀ (w : World) (h : Heap), YP w h → (K w.params).In h)
    (F : ∀ (w : World) (mg : Str → Option Value) (fa : Addr) (h : Heap), (K w.params).In h → h.Ns mainGlobals mg → mg d.name = some (.ref fa) →
      ∃ fd : FuncData, (∀ (s : Shared) (u : Value), BindsTo s fd ⟨[u], []⟩ [("_law_script", u)]) ∧ ∀ base : Heap, (K w.params).In base → base.Ns mainGlobals mg → FnOk l.prog w (K w.params) mg base CX0 8 fa fd ["_law_script"] (spLaw (K w.params))) :
    PySem.W.WalkO q loose XP YP l.row.toRowW d [] (fun f vs => PySem.call f vs) :=
  L2.walk_of (n := 63) (k := 8) (x := "_law_script") (CX := fun _ => CX0) (sp := fun w => spLaw (K w.params)) hn (by decide) hdf ⟨rfl, by decide, by decide⟩ hY F (fun _ _ a ns hl _ hS => ⟨a, ns, rfl, hS, hl, fun _ => rfl⟩) fun _ _ _ _ _ z => z
end K5
open PySem PySem.W PyProof.Rows in
set_option maxRecDepth 100000 in
set_option maxHeartbeats 0 in
theorem PySem.Challenge.cw_cookcalls_k05_wishes_made_holds : PySem.Challenge.rw_cookcalls_k05_wishes_made.Holds := by
  w_on; o_law; k_head; (case hw => w_witness2)
  k_fill
  refine K5.walk (l := PySem.Challenge.rw_cookcalls_k05_wishes_made) rfl rfl (fun w h Y => PySem.W.kIn_of Y) ?F
  case F =>
    intro w mg fa h KX G hmg
    refine' K5.all_mk KX G hmg ?y1_Meal ?y2_Meal ?y3_Meal ?y4_Meal ?y5_Meal ?y6_Meal ?y7_Meal ?z_Meal_bounds ?z_Meal_wished ?z_Meal_places ?x1_is_integer ?x2_is_integer ?x3_is_integer ?x4_is_integer ?x1_is_list ?x2_is_list ?x3_is_list ?x4_is_list ?x1_is_name ?x2_is_name ?x3_is_name ?x4_is_name ?x1_is_dish ?x2_is_dish ?x3_is_dish ?x4_is_dish ?x1_is_bounds ?x2_is_bounds ?x3_is_bounds ?x4_is_bounds ?x1_is_moment ?x2_is_moment ?x3_is_moment ?x4_is_moment ?x1_is_wish ?x2_is_wish ?x3_is_wish ?x4_is_wish ?x1_as_moment ?x2_as_moment ?x3_as_moment ?x4_as_moment ?x1_as_wish ?x2_as_wish ?x3_as_wish ?x4_as_wish ?x1_Meal___init__ ?x5_Meal___init__ ?x2_Meal___init__ ?x3_Meal___init__ ?x4_Meal___init__ ?x1_Meal_wishes ?x5_Meal_wishes ?x2_Meal_wishes ?x3_Meal_wishes ?x4_Meal_wishes ?x1_check_dishes ?x2_check_dishes ?x3_check_dishes ?x4_check_dishes ?x1_check_wishes ?x2_check_wishes ?x3_check_wishes ?x4_check_wishes ?x1_check_stations ?x2_check_stations ?x3_check_stations ?x4_check_stations ?x1_together ?x2_together ?x3_together ?x4_together ?x1_keeping ?x2_keeping ?x3_keeping ?x4_keeping ?x1_ready_by ?x2_ready_by ?x3_ready_by ?x4_ready_by ?x1_behind ?x2_behind ?x3_behind ?x4_behind ?x1__law_fresh ?x2__law_fresh ?x3__law_fresh ?x4__law_fresh ?x1__law_take ?x2__law_take ?x3__law_take ?x4__law_take ?x1__law_one ?x2__law_one ?x3__law_one ?x4__law_one ?x1__law_mix ?x2__law_mix ?x3__law_mix ?x4__law_mix ?x1__law_some ?x2__law_some ?x3__law_some ?x4__law_some ?x1__law_same ?x2__law_same ?x3__law_same ?x4__law_same ?x1__law_names ?x2__law_names ?x3__law_names ?x4__law_names ?x1__law_together ?x2__law_together ?x3__law_together ?x4__law_together ?x1_law ?x2_law ?x3_law ?x4_law ?x1_CLOCK ?x1_LETTERS ?x1_LONGEST_NAME ?x1_len ?x1_abs ?x1_int ?x1_list ?x1_tuple ?x1_bool ?x1_str ?x1_dict ?x1_isinstance ?x1_all ?x1_zip ?x1_enumerate ?x1_range ?x1_sorted ?xT ?xS ?xE1 ?xE2
    (case y1_Meal => k_is)
    (case y2_Meal => k_is)
    (case y3_Meal => k_is)
    (case y4_Meal => k_is)
    (case y5_Meal => k_is)
    (case y6_Meal => k_is)
    (case y7_Meal => k_is)
    (case z_Meal_bounds => k_is)
    (case z_Meal_wished => k_is)
    (case z_Meal_places => k_is)
    (case x1_is_integer => k_is)
    (case x2_is_integer => k_is)
    (case x3_is_integer => k_is)
    (case x4_is_integer => k_is)
    (case x1_is_list => k_is)
    (case x2_is_list => k_is)
    (case x3_is_list => k_is)
    (case x4_is_list => k_is)
    (case x1_is_name => k_is)
    (case x2_is_name => k_is)
    (case x3_is_name => k_is)
    (case x4_is_name => k_is)
    (case x1_is_dish => k_is)
    (case x2_is_dish => k_is)
    (case x3_is_dish => k_is)
    (case x4_is_dish => k_is)
    (case x1_is_bounds => k_is)
    (case x2_is_bounds => k_is)
    (case x3_is_bounds => k_is)
    (case x4_is_bounds => k_is)
    (case x1_is_moment => k_is)
    (case x2_is_moment => k_is)
    (case x3_is_moment => k_is)
    (case x4_is_moment => k_is)
    (case x1_is_wish => k_is)
    (case x2_is_wish => k_is)
    (case x3_is_wish => k_is)
    (case x4_is_wish => k_is)
    (case x1_as_moment => k_is)
    (case x2_as_moment => k_is)
    (case x3_as_moment => k_is)
    (case x4_as_moment => k_is)
    (case x1_as_wish => k_is)
    (case x2_as_wish => k_is)
    (case x3_as_wish => k_is)
    (case x4_as_wish => k_is)
    (case x1_Meal___init__ => k_is)
    (case x5_Meal___init__ => k_is)
    (case x2_Meal___init__ => k_is)
    (case x3_Meal___init__ => k_is)
    (case x4_Meal___init__ => k_is)
    (case x1_Meal_wishes => k_is)
    (case x5_Meal_wishes => k_is)
    (case x2_Meal_wishes => k_is)
    (case x3_Meal_wishes => k_is)
    (case x4_Meal_wishes => k_is)
    (case x1_check_dishes => k_is)
    (case x2_check_dishes => k_is)
    (case x3_check_dishes => k_is)
    (case x4_check_dishes => k_is)
    (case x1_check_wishes => k_is)
    (case x2_check_wishes => k_is)
    (case x3_check_wishes => k_is)
    (case x4_check_wishes => k_is)
    (case x1_check_stations => k_is)
    (case x2_check_stations => k_is)
    (case x3_check_stations => k_is)
    (case x4_check_stations => k_is)
    (case x1_together => k_is)
    (case x2_together => k_is)
    (case x3_together => k_is)
    (case x4_together => k_is)
    (case x1_keeping => k_is)
    (case x2_keeping => k_is)
    (case x3_keeping => k_is)
    (case x4_keeping => k_is)
    (case x1_ready_by => k_is)
    (case x2_ready_by => k_is)
    (case x3_ready_by => k_is)
    (case x4_ready_by => k_is)
    (case x1_behind => k_is)
    (case x2_behind => k_is)
    (case x3_behind => k_is)
    (case x4_behind => k_is)
    (case x1__law_fresh => k_is)
    (case x2__law_fresh => k_is)
    (case x3__law_fresh => k_is)
    (case x4__law_fresh => k_is)
    (case x1__law_take => k_is)
    (case x2__law_take => k_is)
    (case x3__law_take => k_is)
    (case x4__law_take => k_is)
    (case x1__law_one => k_is)
    (case x2__law_one => k_is)
    (case x3__law_one => k_is)
    (case x4__law_one => k_is)
    (case x1__law_mix => k_is)
    (case x2__law_mix => k_is)
    (case x3__law_mix => k_is)
    (case x4__law_mix => k_is)
    (case x1__law_some => k_is)
    (case x2__law_some => k_is)
    (case x3__law_some => k_is)
    (case x4__law_some => k_is)
    (case x1__law_same => k_is)
    (case x2__law_same => k_is)
    (case x3__law_same => k_is)
    (case x4__law_same => k_is)
    (case x1__law_names => k_is)
    (case x2__law_names => k_is)
    (case x3__law_names => k_is)
    (case x4__law_names => k_is)
    (case x1__law_together => k_is)
    (case x2__law_together => k_is)
    (case x3__law_together => k_is)
    (case x4__law_together => k_is)
    (case x1_law => k_is)
    (case x2_law => k_is)
    (case x3_law => k_is)
    (case x4_law => k_is)
    (case x1_CLOCK => k_is)
    (case x1_LETTERS => k_is)
    (case x1_LONGEST_NAME => k_is)
    (case x1_len => k_is)
    (case x1_abs => k_is)
    (case x1_int => k_is)
    (case x1_list => k_is)
    (case x1_tuple => k_is)
    (case x1_bool => k_is)
    (case x1_str => k_is)
    (case x1_dict => k_is)
    (case x1_isinstance => k_is)
    (case x1_all => k_is)
    (case x1_zip => k_is)
    (case x1_enumerate => k_is)
    (case x1_range => k_is)
    (case x1_sorted => k_is)
    (case xT => k_is)
    (case xS => k_is)
    (case xE1 => k_is)
    (case xE2 => k_is)
