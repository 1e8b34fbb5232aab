import PyProof.Rows.All
import Wide.All
import OpenK.AllK
import Wide.FinOn
import HandS.ForMost
import HandS.Style
import HandS.DictComp
import HandS.Defaults
import HandS.Walk
import KE.GoesMore
import PyProof.Draws
import HandS.OwnEq
import HandS.More
import HandS.IsInst
import HandS.Words
import HandS.DeepEq
import HandS.Sort
import KE.KDictList
import HandS.Iter
import HandS.IterVal
import KE.KOwnIter
import HandS.OwnIter
import HandS.NamedTupGet
import PyProof.DictRoadsH
import KE.KOpsOwn
import KE.KExcMake
import HandS.Exc
import HandS.TryOnly
import HandS.ListItems
import HandS.Wide
import HandS.Deep
import HandS.TupAny
import HandS.Flow
import HandS.Zip
import HandS.WordsDict
import HandS.Lambda
import HandS.TryMany
import HandS.ExcInit
import HandS.ExcField
import HandS.ForDict
import PyProof.Rows.StrMeet
import HandS.Star
import HandS.WordsExc
import HandS.EndTab
import HandS.Finally
import PySem.Challenge.RW_cookcalls_k09_books_told
set_option Elab.async false
set_option linter.all false
set_option maxRecDepth 100000
set_option maxHeartbeats 2000000
namespace EnT
open PySem PySem.Spec PyProof.Rows L2
/-! enumerate over a tuple, as a walk of the hand layer -/
theorem newOver {u : Value} {cell : Obj} {G : Heap → Prop} (B : Begins u cell G) :
    Meets (Builtin.«enumerate.__new__» ⟨[.type "enumerate", u], []⟩) (fun _ R z => G z.heap ∧
      R (.ok (.ret (.ref (z.heap.push cell).objs.size)))
        { z with heap := (z.heap.push cell).push { cls := .type "enumerate", data := .fields #[.none, .bool false, .ref z.heap.objs.size, rawInt 0, .none, .none] } }) :=
  .of_wp fun P w A R z hz => by
    obtain ⟨g0, gs, dr, tk, os⟩ := z; obtain ⟨hG, hR⟩ := hz
    have below := sub_enumerate
    have step : ∀ {A' : Around} {E : Value → Shared → Prop} {Q : Value → Shared → Prop}, Q (.ref g0.objs.size) ⟨g0.push cell, gs, dr, tk, os⟩ → wpAny (model P w) A' (pyIter u) Q E ⟨g0, gs, dr, tk, os⟩ :=
      fun z => B.iter P w _ _ ⟨g0, gs, dr, tk, os⟩ _ hG z
    wp_walk using step
    refine wpAny_stack_any fun _ => wpAny_pure ?_
    split
    · rename_i c _ _ _ _ _
      cases (c == Value.type "enumerate") <;> (wp_walk using step; exact ⟨_, rfl, hR⟩)
    · wp_walk using step
      exact ⟨_, rfl, hR⟩
theorem made {P : Program} {w : World} {A : Around} {E : Value → Shared → Prop} {z : Shared} {u : Value} {cell : Obj} {G : Heap → Prop} {Q : Value → Shared → Prop} (B : Begins u cell G) (hG : G z.heap)
    (k : ∀ g, IsEnum g (z.heap.objs.size + 1) z.heap.objs.size 0 .none → g.get? z.heap.objs.size = some cell → (∀ b o, z.heap.get? b = some o → g.get? b = some o) → Q (.ref (z.heap.objs.size + 1)) { z with heap := g }) :
    wpAny (model P w) A (call (.type "enumerate") [u]) Q E z := by
  refine callType_new F.called_enumerate (by decide) (F.typeCall_enumerate_1 _) (F.newCall_enumerate_1 _) (fun o => F.args_object_init_2 o _) F.entry_enumerate_new (newOver B) ⟨hG, ?_⟩
  have size : (z.heap.push cell).objs.size = z.heap.objs.size + 1 := Heap.size_push ..
  show _ ∧ _
  rw [size]
  generalize hg : (z.heap.push cell).push { cls := .type "enumerate", data := .fields #[.none, .bool false, .ref z.heap.objs.size, rawInt 0, .none, .none] } = g
  have top : IsEnum g (z.heap.objs.size + 1) z.heap.objs.size 0 .none := by
    rw [← hg, ← size]
    exact Heap.get?_push_size _ rfl
  refine ⟨⟨_, top, rfl⟩, k g top ?_ fun b o e => ?_⟩
  · rw [← hg]
    exact Heap.get?_push_of_some _ (Heap.get?_push_size _ B.free)
  · rw [← hg]
    exact Heap.get?_push_of_some _ (Heap.get?_push_of_some _ e)
/-- the tuple at a as it stands at each turn, each item in a new pair -/
def Iet (K : PySem.W.Frag) (a : Addr) : It where
  go i H := ∃ (ys : List V) (y : V), SqT K H a ys ∧ ys[i]? = some y
  yld i H v H' := ∃ T y, v = .ref T ∧ H T = none ∧ H' = upd H T (.tup [.int (i : Nat), y]) ∧ ∀ ys, SqT K H a ys → ys[i]? = some y
  stop i H := ∃ ys : List V, SqT K H a ys ∧ ys.length = i
theorem turns {P : Program} {w : World} {K : PySem.W.Frag} {elts : List Expr} {kk : Nat} {tpos : Pos} (a e j : Addr) :
    Turn P w K (.Tuple elts kk tpos) (Iet K a) [e, j] e (fun i g => (∃ old, IsEnum g e j ((i : Nat) : Int) old) ∧ g.IsTupleIter j a i ∧ e ≠ j) where
  mem := by simp
  obj := fun i g st b hb => by
    obtain ⟨⟨old, he⟩, ⟨o, ho, _, hd⟩, _⟩ := st
    have two : b = e ∨ b = j := by simpa using hb
    rcases two with q | q <;> subst q
    · exact ⟨_, he, fun v z => nomatch z⟩
    · exact ⟨o, ho, fun v z => by rw [hd] at z; cases z⟩
  keep := fun i g g' st k => by
    obtain ⟨⟨old, he⟩, hj, hne⟩ := st
    exact ⟨⟨old, k e (by simp) _ he⟩, hj.at fun o q => k j (by simp) o q, hne⟩
  item := by
    intro X hP hw hK hc i pins s σ H E I hf st hg
    subst hP hw hK
    obtain ⟨⟨old, he⟩, hj, hne⟩ := st
    obtain ⟨ys, y, hq, hy⟩ := hg
    obtain ⟨its, rv, p, _⟩ := I.tuple hq
    obtain ⟨u, hu, ru⟩ := rv.get hy
    have ht : s.heap.IsTuple a its.toArray := p
    have haj : a ≠ j := fun z => by
      obtain ⟨o1, e1, c1, _⟩ := hj
      obtain ⟨o2, e2, c2, _⟩ := ht
      rw [z, e1] at e2
      cases e2
      rw [c1] at c2
      exact absurd (Value.type.inj c2) (by decide)
    have hae : e ≠ a := fun z => by
      obtain ⟨o2, e2, c2, _⟩ := ht
      rw [← z, he] at e2
      cases e2
      exact absurd (Value.type.inj c2) (by decide)
    have lt : i < its.toArray.size := by
      have := rv.length
      have h1 := (List.getElem?_eq_some_iff.mp hy).1
      rw [List.size_toArray]
      omega
    have hel : e < s.heap.objs.size := Heap.lt_size he
    have hjl : j < s.heap.objs.size := by obtain ⟨_, q, _⟩ := hj; exact Heap.lt_size q
    refine wpAny_pyNext_enum_itemD (Draws.tuple (show X.A.in1.handled = none from I.ok.hd hc) j a haj its.toArray) he ⟨hj, ht⟩ lt hne (by simp [hne, hae]) fun x g tk hx ho hs hT hsz hk => ?_
    refine ⟨_, rfl, wpAny_letOwnedTupleGo_enum (s := { s with heap := g, toks := tk + 1 }) ho fun g' he' sb => ?_⟩
    have eu : x = u := by
      have h1 : its.toArray[i]? = some x := hx
      have h2 : its.toArray[i]? = some u := by simpa using hu
      rw [h1] at h2
      exact Option.some.inj h2
    subst eu
    have hT' : g'.get? s.heap.objs.size = some { cls := .type "tuple", data := .seq #[.int i tk, x] } := (sb.2 _ (Nat.ne_of_gt hel)).trans hT
    have fresh : ObjOk X.prog X.w (upd H s.heap.objs.size (.tup [.int (i : Nat), y])) g' s.heap.objs.size (.tup [.int (i : Nat), y]) :=
      ⟨by show 2 ≤ sizeLine; decide, [.int i tk, x], .cons ⟨_, rfl⟩ (.cons ru .nil), ⟨_, hT', rfl, _, rfl⟩⟩
    have I1 : Inv X pins σ (upd H s.heap.objs.size (.tup [.int (i : Nat), y])) { s with heap := g', toks := tk + 1 } :=
      I.turnedNew (ch := [e, j]) (fun b o hb q => (sb.2 b (fun z => hb (by simp [z]))).trans (hk b o (fun z => hb (by simp [z])) (fun z => hb (by simp [z])) q)) hf (Nat.le_refl _) fresh
    refine ⟨.ref s.heap.objs.size, _, I1, rfl, ⟨_, y, rfl, I.hok.fresh (Nat.le_refl _), rfl, fun zs hz => by rw [I.tuple_inj hz hq]; exact hy⟩, ⟨⟨x, ?_⟩, hs.1.at fun o q => (sb.2 j (Ne.symm hne)).trans q, hne⟩, fun b hb => ?_⟩
    · have e1 : ((i + 1 : Nat) : Int) = (i : Int) + 1 := by omega
      rw [e1]; exact he'
    · have old2 : b < s.heap.objs.size := by
        have two : b = e ∨ b = j := by simpa using hb
        rcases two with q | q <;> (rw [q]; assumption)
      rw [upd_ne (Nat.ne_of_lt old2)]
      exact (hf b hb).1
  done := by
    intro X hP hw hK hc i pins s σ H E I hf st hg
    subst hP hw hK
    obtain ⟨⟨old, he⟩, hj, hne⟩ := st
    obtain ⟨ys, hq, hy⟩ := hg
    obtain ⟨its, rv, p, _⟩ := I.tuple hq
    obtain ⟨f0, f1, f2, f3, f4, f5⟩ := hf j (by simp)
    have ht : s.heap.IsTuple a its.toArray := p
    have haj : a ≠ j := fun z => by
      obtain ⟨o1, e1, c1, _⟩ := hj
      obtain ⟨o2, e2, c2, _⟩ := ht
      rw [z, e1] at e2
      cases e2
      rw [c1] at c2
      exact absurd (Value.type.inj c2) (by decide)
    have sz : its.toArray.size = i := by
      have := rv.length
      rw [List.size_toArray]
      omega
    have D := Draws.tuple (prog := X.prog) (w := X.w) (show X.A.in1.handled = none from I.ok.hd hc) j a haj its.toArray
    rw [sz] at D
    exact wpAny_pyNext_enum_endD D he ⟨hj, ht⟩ fun g eb => ⟨rfl, I.turned (t' := s.toks) (fun b o hb q => eb b o hb q) f0 f1 f3 f4 f5⟩
  self := fun A i s Q E st k => by
    obtain ⟨⟨_, he⟩, _⟩ := st
    exact wpAny_pyIter_enum he k
def iEnumT (K : PySem.W.Frag) (ta : TA) : TI := fun σ H R => ta σ H fun vs H1 => ∃ a ys, vs = [V.ref a] ∧ SqT K H1 a ys ∧ R (Iet K a) H1
theorem pi_enumT {X : Cx} {e : Expr} {ta : TA} {p pos tpos : Pos} {elts : List Expr} {kk : Nat} (gl : Gl X "enumerate") (free : X.mg "enumerate" = none) (ha : PA X [e] ta) (hs : starEach [e] X.env = [(false, eval e X.env)] := by rfl) :
    PI X (.Tuple elts kk tpos) (.Call (.Name "enumerate" p) [e] [] pos) (iEnumT X.K ta) := by
  refine ⟨fun pins s σ H R I h => ?_⟩
  refine Call_ (ld_blt I gl free boot_enumerate (PyProof.Rows.callWith_type1 (thn (ha.run pos pins s σ H _ I h) fun us s1 ⟨vs, H1, I1, r1, q1⟩ => ?_) hs rfl))
  obtain ⟨a, ys, ex, hq, q⟩ := q1
  subst ex
  cases r1 with
  | cons r rr =>
    cases rr
    cases r
    obtain ⟨its, rv, p', _⟩ := I1.tuple hq
    have ht : s1.heap.IsTuple a its.toArray := p'
    refine made (begins_tuple a its.toArray) ht fun g he hj hk => wpAny_pyIter_enum he ?_
    have I2 : Inv X pins σ H1 { s1 with heap := g } := I1.kept (t' := s1.toks) hk
    refine ⟨s1.heap.objs.size + 1, [s1.heap.objs.size + 1, s1.heap.objs.size], _, _, H1, rfl, I2, turns a (s1.heap.objs.size + 1) s1.heap.objs.size, ⟨⟨.none, he⟩, ⟨_, hj, rfl, rfl⟩, Nat.succ_ne_self _⟩, fun b hb => ?_, q⟩
    have hle : s1.heap.objs.size ≤ b := by
      have two : b = s1.heap.objs.size + 1 ∨ b = s1.heap.objs.size := by simpa using hb
      rcases two with z | z <;> rw [z]
      · exact Nat.le_add_right _ _
      · exact Nat.le_refl _
    exact I1.fpOk hle (I1.hok.fresh hle)
/-- one of two walks -/
theorem pi_or {X : Cx} {tg e : Expr} {t u : TI} (h : PI X tg e t) (k : PI X tg e u) : PI X tg e (fun σ H R => t σ H R ∨ u σ H R) :=
  ⟨fun pins s σ H R I q => q.elim (h.run pins s σ H R I) (k.run pins s σ H R I)⟩
theorem walk_enumT {K : PySem.W.Frag} {a : Addr} {xs : List V} : Walk (Iet K a) xs.length (fun H => SqT K H a xs) (YPair (fun i => some (.int (i : Nat))) (fun i => xs[i]?)) :=
  ⟨fun _ _ hi q => ⟨xs, _, q, List.getElem?_eq_getElem hi⟩, fun _ q => ⟨xs, q, rfl⟩, fun i H v H' _ q y => by
    obtain ⟨T, x, h1, h2, h3, h4⟩ := y
    exact ⟨T, _, x, h1, h2, h3, rfl, h4 xs q⟩⟩
end EnT
set_option Elab.async false
set_option linter.all false
set_option maxRecDepth 100000
set_option maxHeartbeats 2000000
/-! == and != of an instance whose class has an == of its own: any answer, any other thing -/
namespace Own
open PySem PySem.Spec PyProof.Rows L2
theorem tyIs_keeps {s s' : Shared} {u : Value} {T : String} (k : ∀ b o, s.heap.get? b = some o → s'.heap.get? b = some o) (h : s.TypeIs u T) : s'.TypeIs u T := by
  cases u <;> first | exact h | (obtain ⟨o, h1, h2⟩ := h; exact ⟨o, k _ _ h1, h2⟩)
theorem looks_ty {M : Model} {s : Shared} {u : Value} {T : String} (h : s.TypeIs u T) : PySem.W.Looks M s.heap (typeOf u) (.type T) := fun A Q E s' k q => wpAny_typeOf (tyIs_keeps k h) q
/-- what stands on the other side -/
inductive Oth (K : PySem.W.Frag) (H : Hp) (C : Addr) : V → Prop
  | ty {y : V} {T : String} (h : TyB K H y T) (n : PySem.W.notFirst K C (.type T) = true) : Oth K H C y
  | ins {b D dy : Addr} {gs : List (Str × V)} (h : H b = some (.ins D dy gs)) (n : PySem.W.notFirst K C (.ref D) = true) : Oth K H C (.ref b)
theorem Oth.looks {X : Cx} {pins : List (Addr × Obj)} {σ : L2.St} {H : Hp} {s : Shared} {C : Addr} {y : V} {v : Value} (I : L2.Inv X pins σ H s) (ry : L2.RelV y v) (o : Oth X.K H C y) :
    ∃ tb, PySem.W.Looks (model X.prog X.w) s.heap (typeOf v) tb ∧ PySem.W.notFirst X.K C tb = true := by
  cases o with
  | ty h n => exact ⟨_, looks_ty (h.is I ry), n⟩
  | ins h n =>
    cases (show v = Value.ref _ from ry)
    obtain ⟨mB, J, _⟩ := ins_get I.hok h
    obtain ⟨od, J, _⟩ := J.look
    exact ⟨_, J.type, n⟩
theorem non_declines {prog : Program} {w : World} {A : Around} {E : Value → Shared → Prop} {s : Shared} (x : Addr) : wpAny (model prog w) A (tryCompare .none "__eq__" (.ref x)) (fun r s' => r = none ∧ s' = s) E s :=
  wpAny_tryCompare_declines (show s.TypeIs .none "NoneType" from rfl) F.slot_NoneType_eq_refl (call_gives F.slot_NoneType_eq_refl rfl F.entry_NoneType_eq (F.args_NoneType_eq_2 _ _) (PySem.SeqAt.NoneType___eq___none_ref_0 x) ⟨rfl, rfl, rfl⟩)
theorem dict_declines {prog : Program} {w : World} {A : Around} {E : Value → Shared → Prop} {s : Shared} {K : PySem.W.Frag} {d x C : Addr} {ox : Obj} {od : Option Obj} (hT : s.TypeIs (.ref d) "dict") (X : K.In s.heap) (I : PySem.W.InstAt s.heap x ox C od) (hsub : PySem.W.subIn K (.ref C) (.type "dict") = some false) :
    wpAny (model prog w) A (tryCompare (.ref d) "__eq__" (.ref x)) (fun r s' => r = none ∧ s' = s) E s := by
  refine wpAny_tryCompare_declines hT PySem.F.slot_dict_eq_refl (wpAny_call (codeAny_call_builtin PySem.F.slot_dict_eq_refl.plain PySem.F.entry_dict_eq (PySem.F.slot_dict_eq_refl.check _ _ _ _ _ _ _ _ hT (PySem.F.args_dict_eq_2 _ _) ?_)))
  show wpAny _ _ (Builtin.Dict.dictSlotArgs "__eq__" ⟨[.ref d, .ref x], []⟩ >>= _) _ _ s
  refine wpAny_bind ?_
  unfold Builtin.Dict.dictSlotArgs
  refine wpAny_bind (wpAny_notOrdered_dict hT ?_)
  show wpAny _ _ (pure (Value.ref d, Value.ref x)) _ _ s
  refine wpAny_pure ?_
  unfold isInstance
  refine wpAny_bind (wpAny_bind (I.type.here ((PySem.W.looks_subIn X hsub).here ?_)))
  simp only [Bool.not_false, if_true]
  refine wpAny_bind (wpAny_rule (wpAny_bind (wpAny_pure (wpAny_pure ?_))))
  first
    | exact ⟨trivial, rfl, rfl⟩
    | exact ⟨trivial, trivial, rfl⟩
    | exact ⟨trivial, rfl⟩
    | simp
section
variable {X : Cx} {CX : CXT} {C f : Addr} {fd : FuncData} {ps : List Str} {n : Nat} {sp : Sp} {E : XK}
theorem own_call (F : FnOk X.prog X.w X.K X.mg X.base CX n f fd ps sp) (hb : L2.Binds X.K fd ps []) (hx : Passes CX X E) {A : Around} (hr : Room n A) (hfr : A.frames = X.A.frames)
    {pins : List (Addr × Obj)} {s : Shared} {σ : L2.St} {H : Hp} {x y : V} {u v : Value} {R : V → Hp → Prop} (I : L2.Inv X pins σ H s) (rx : L2.RelV x u) (ry : L2.RelV y v) (hsp : sp [x, y] H R E) :
    wpAny (model X.prog X.w) A (call (.ref f) [u, v]) (fun w s' => ∃ z H', L2.RelV z w ∧ L2.Inv X pins σ H' s' ∧ R z H') X.xe s := by
  have e0 : Env0 X.prog X.w X.K X.mg X.base A X.stack s H := by
    have e := I.env0
    exact ⟨by rw [hfr]; exact e.frames, e.mod, e.bs, e.bsz, e.funs, e.frf, e.hok, e.bare⟩
  have hl := F.len _ _ _ _ hsp
  have r2 : L2.Vals [x, y] [u, v] := .cons rx (.cons ry .nil)
  refine wpAny_call (codeAny_mono (F.run A X.stack s H ⟨[u, v], []⟩ [u, v] [x, y] R E hr e0 (by
    have := hb s [u, v] I.kIn (by simpa using hl)
    simpa using this) r2 hsp) fun r s' hq => ?_)
  cases r with
  | error e => exact hx pins σ H s e s' I hq
  | ok fl =>
    cases fl with
    | ret w =>
      obtain ⟨z, H', I', rz, q⟩ := I.after hq
      exact ⟨z, H', rz, I', q⟩
    | next => exact False.elim hq
    | brk => exact False.elim hq
    | cont => exact False.elim hq
/-- the reading of x == y: the own def tells a truth -/
def rOwn (K : PySem.W.Frag) (C : Addr) (sp : Sp) (E : XK) (neg : Bool) : R2 := fun x y H Q => ∃ a dx fs, x = .ref a ∧ H a = some (.ins C dx fs) ∧ Oth K H C y ∧ sp [x, y] H (fun v H' => ∃ b : Bool, v = .bl b ∧ Q (.bl (if neg then !b else b)) H') E
theorem op_eqOwn (F : FnOk X.prog X.w X.K X.mg X.base CX n f fd ps sp) (hs : PySem.W.findIn X.K (.ref C) "__eq__" = some (some (.ref f))) (hf : PySem.W.isFn X.K (.ref f) = true) (hb : L2.Binds X.K fd ps []) (hx : Passes CX X E) (hr : Room n X.A) :
    OpR X (compareOp .Eq) (rOwn X.K C sp E false) := by
  intro pins s σ H x y u v Q I rx ry ⟨a, dx, fs, ex, ha, ho, hsp⟩
  subst ex
  cases (show u = Value.ref a from rx)
  obtain ⟨mA, J, _⟩ := ins_get I.hok ha
  obtain ⟨od, J, _⟩ := J.look
  obtain ⟨m, hF⟩ := I.fr
  obtain ⟨tb, L, hn⟩ := ho.looks I ry
  show wpAny (model X.prog X.w) X.A (richCompare .Eq (.ref a) v) (EP X pins σ Q) X.xe s
  refine PySem.W.cmp_K (op := .Eq) (tb := tb) hr.units0 hF I.ok.mod.kin J L hn hs hf ?_
  refine wpAny_mono (own_call F hb hx hr rfl I (x := .ref a) rfl ry hsp) (fun w s' h => ?_) fun _ _ h => h
  obtain ⟨z, H', rz, I', b, ez, q⟩ := h
  subst ez
  cases (show w = Value.bool b from rz)
  exact ⟨.bl b, H', I', rfl, q⟩
set_option maxHeartbeats 200000 in
theorem entry_ne {prog : Program} {w : World} {A : Around} {E : Value → Shared → Prop} {s : Shared} {K : PySem.W.Frag} {x C f : Addr} {ox : Obj} {od : Option Obj} {b : Value} {Q : Fin → Shared → Prop} (hu : A.units < cLine) (X : K.In s.heap) (I : PySem.W.InstAt s.heap x ox C od)
    (hs : PySem.W.findIn K (.ref C) "__eq__" = some (some (.ref f))) (hf : PySem.W.isFn K (.ref f) = true) (h : wpAny (model prog w) A (call (.ref f) [.ref x, b]) (fun r s' => ∃ c, r = .bool c ∧ Q (.done (.ret (.bool (!c)))) s') E s) :
    wpAny (model prog w) A (Builtin.«object.__ne__» ⟨[.ref x, b], []⟩) Q E s := by
  unfold Builtin.«object.__ne__»
  refine wpAny_bind (wpAny_pure ?_)
  refine wpAny_bind (wpAny_cRoomFor hu ?_)
  refine wpAny_bind (PySem.W.ifBound_K X I hs hf (wpAny_mono h (fun r s' hr => ?_) fun _ _ e => e))
  obtain ⟨c, rfl, q⟩ := hr
  refine wpAny_bind (wpAny_truthy_bool ?_)
  exact wpAny_pure q
theorem ifBound_objNe {M : Model} {A : Around} {E : Value → Shared → Prop} {s : Shared} {K : PySem.W.Frag} {x C : Addr} {ox : Obj} {od : Option Obj} {args : List Value} {Q : Option Value → Shared → Prop} (X : K.In s.heap) (I : PySem.W.InstAt s.heap x ox C od) (hs : PySem.W.findIn K (.ref C) "__ne__" = some (some (.builtin "object.__ne__")))
    (h : wpAny M A (call (.builtin "object.__ne__") (.ref x :: args)) (fun v => Q (some v)) E s) : wpAny M A (callSpecialIfBound? (.ref x) "__ne__" args) Q E s := by
  simp only [callSpecialIfBound?, bindSpecialIfBound?]
  refine wpAny_holding (wpAny_bind (wpAny_bind (wpAny_bind (I.type.here ((PySem.W.looks_findIn X hs).here ?_)))))
  refine wpAny_bind (wpAny_askSetting (wpAny_ite ?_))
  have fin : wpAny M A (call (.builtin "object.__ne__") ([.ref x] ++ args) >>= fun v => pure (some v)) Q E s := wpAny_bind (wpAny_mono h (fun v s' h' => wpAny_pure h') fun _ _ h' => h')
  split
  · exact wpAny_bind (wpAny_of_eq (F.cmp_object.ne.bind _) (wpAny_pure (by exact fin)))
  · exact wpAny_tryCatch (wpAny_bind (wpAny_of_eq (F.cmp_object.ne.bind _) (wpAny_pure (by exact fin))))
theorem rc_ne {prog : Program} {w : World} {A : Around} {E : Value → Shared → Prop} {s : Shared} {K : PySem.W.Frag} {x C f : Addr} {ox : Obj} {od : Option Obj} {b tb : Value} {Q : Value → Shared → Prop} (hu : A.units + 1 < cLine) (X : K.In s.heap) (I : PySem.W.InstAt s.heap x ox C od)
    (hb : PySem.W.Looks (model prog w) s.heap (typeOf b) tb) (hn : PySem.W.notFirst K C tb = true) (hm : PySem.W.mroIn K C (.type "object") = some true) (hne : PySem.W.findIn K (.ref C) "__ne__" = some (some (.builtin "object.__ne__")))
    (hs : PySem.W.findIn K (.ref C) "__eq__" = some (some (.ref f))) (hf : PySem.W.isFn K (.ref f) = true) (h : wpAny (model prog w) A.in1 (call (.ref f) [.ref x, b]) (fun r s' => ∃ c, r = .bool c ∧ Q (.bool (!c)) s') E s) :
    wpAny (model prog w) A (richCompare .NotEq (.ref x) b) Q E s := by
  have one : wpAny (model prog w) A (tryCompare (.ref x) "__ne__" b) (fun r s' => ∃ v, r = some v ∧ Q v s') E s := by
    unfold tryCompare
    refine wpAny_bind (ifBound_objNe X I hne (wpAny_call (codeAny_call_builtin F.cmp_object.ne.plain F.cmpEntry_ne (PySem.W.check_slot F.cmpKind_ne F.cmpSplit_ne (I.type.andThen (PySem.W.looks_mroIn X hm)) (F.cmpArgs_ne _ _)
      (entry_ne (by show A.units + 1 < cLine; exact hu) X I hs hf (wpAny_mono h (fun r s' hr => ?_) fun _ _ e => e))))))
    obtain ⟨c, rfl, q⟩ := hr
    exact ⟨c, rfl, wpAny_pure ⟨_, rfl, q⟩⟩
  unfold richCompare
  simp only [oneThing_ref]
  refine wpAny_holding (wpAny_bind (wpAny_cRoomFor (by omega) ?_))
  refine wpAny_bind (I.type.here (wpAny_bind (hb.here ?_)))
  split
  · rename_i q
    have e : PySem.W.subIn K tb (.ref C) = some false := by
      rcases Bool.or_eq_true_iff.mp hn with e | e
      · rw [beq_iff_eq.mp e] at q; simp at q
      · exact beq_iff_eq.mp e
    refine wpAny_bind ((PySem.W.looks_subIn X e).here ?_)
    simp only [Bool.false_eq_true, if_false]
    refine wpAny_bind (wpAny_mono one (fun r s' z => ?_) fun _ _ e => e)
    obtain ⟨v, rfl, hq⟩ := z
    exact wpAny_pure hq
  · refine wpAny_bind (wpAny_pure ?_)
    simp only [Bool.false_eq_true, if_false]
    refine wpAny_bind (wpAny_mono one (fun r s' z => ?_) fun _ _ e => e)
    obtain ⟨v, rfl, hq⟩ := z
    exact wpAny_pure hq
theorem op_neOwn (F : FnOk X.prog X.w X.K X.mg X.base CX n f fd ps sp) (hne : PySem.W.findIn X.K (.ref C) "__ne__" = some (some (.builtin "object.__ne__"))) (hm : PySem.W.mroIn X.K C (.type "object") = some true)
    (hs : PySem.W.findIn X.K (.ref C) "__eq__" = some (some (.ref f))) (hf : PySem.W.isFn X.K (.ref f) = true) (hb : L2.Binds X.K fd ps []) (hx : Passes CX X E) (hr : Room (n + 1) X.A) :
    OpR X (compareOp .NotEq) (rOwn X.K C sp E true) := by
  intro pins s σ H x y u v Q I rx ry ⟨a, dx, fs, ex, ha, ho, hsp⟩
  subst ex
  cases (show u = Value.ref a from rx)
  obtain ⟨mA, J, _⟩ := ins_get I.hok ha
  obtain ⟨od, J, _⟩ := J.look
  obtain ⟨tb, L, hn⟩ := ho.looks I ry
  show wpAny (model X.prog X.w) X.A (richCompare .NotEq (.ref a) v) (EP X pins σ Q) X.xe s
  have un := hr.un
  refine rc_ne (by omega) I.kIn J L hn hm hne hs hf ?_
  refine wpAny_mono (own_call F hb hx hr.in1 rfl I (x := .ref a) rfl ry hsp) (fun w s' h => ?_) fun _ _ h => h
  obtain ⟨z, H', rz, I', b, ez, q⟩ := h
  subst ez
  cases (show w = Value.bool b from rz)
  exact ⟨b, rfl, .bl (!b), H', I', rfl, q⟩
/-- what is built in on the left declines, then the own == is asked -/
theorem rc_left {prog : Program} {w : World} {A : Around} {E : Value → Shared → Prop} {s : Shared} {K : PySem.W.Frag} {x C f : Addr} {ox : Obj} {od : Option Obj} {a : Value} {T : String} {Q : Value → Shared → Prop} (hu : A.units < cLine) (X : K.In s.heap) (I : PySem.W.InstAt s.heap x ox C od)
    (hT : s.TypeIs a T) (hsub : PySem.W.subIn K (.ref C) (.type T) = some false) (ho : oneThing? .Eq a (.ref x) = none)
    (one : wpAny (model prog w) A (tryCompare a "__eq__" (.ref x)) (fun r s' => r = none ∧ s' = s) E s)
    (hs : PySem.W.findIn K (.ref C) "__eq__" = some (some (.ref f))) (hf : PySem.W.isFn K (.ref f) = true) (h : wpAny (model prog w) A (call (.ref f) [.ref x, a]) (fun r s' => ∃ c, r = .bool c ∧ Q (.bool c) s') E s) :
    wpAny (model prog w) A (richCompare .Eq a (.ref x)) Q E s := by
  have two : wpAny (model prog w) A (tryCompare (.ref x) "__eq__" a) (fun r s' => ∃ v, r = some v ∧ Q v s') E s := by
    unfold tryCompare
    refine wpAny_bind (PySem.W.ifBound_K X I hs hf (wpAny_mono h (fun v s' hv => ?_) fun _ _ e => e))
    obtain ⟨c, rfl, q⟩ := hv
    exact wpAny_pure ⟨_, rfl, q⟩
  simp only [richCompare, cmpInfo_Eq, ho]
  refine wpAny_holding (wpAny_bind (wpAny_cRoomFor hu ?_))
  refine wpAny_bind (wpAny_typeOf hT ?_)
  refine wpAny_bind (I.type.here ?_)
  split
  · refine wpAny_bind ((PySem.W.looks_subIn X hsub).here ?_)
    simp only [Bool.false_eq_true, if_false, Bool.not_false, if_true]
    refine wpAny_bind (m := tryCompare a _ (.ref x)) (wpAny_mono one (fun r s1 z => ?_) fun _ _ e => e)
    obtain ⟨z1, z2⟩ := z
    subst z1
    subst z2
    refine wpAny_bind (m := tryCompare (.ref x) _ a) (wpAny_mono two (fun r s2 z => ?_) fun _ _ e => e)
    obtain ⟨v, rfl, q⟩ := z
    exact wpAny_pure q
  · rename_i q
    exact absurd (by simp) q
/-- None == x -/
def rNonL (C : Addr) (sp : Sp) (E : XK) : R2 := fun x y H Q => x = .non ∧ ∃ a dx fs, y = .ref a ∧ H a = some (.ins C dx fs) ∧ sp [y, .non] H (fun v H' => ∃ b : Bool, v = .bl b ∧ Q (.bl b) H') E
theorem op_eqNonL (F : FnOk X.prog X.w X.K X.mg X.base CX n f fd ps sp) (hsub : PySem.W.subIn X.K (.ref C) (.type "NoneType") = some false)
    (hs : PySem.W.findIn X.K (.ref C) "__eq__" = some (some (.ref f))) (hf : PySem.W.isFn X.K (.ref f) = true) (hb : L2.Binds X.K fd ps []) (hx : Passes CX X E) (hr : Room n X.A) :
    OpR X (compareOp .Eq) (rNonL C sp E) := by
  intro pins s σ H x y u v Q I rx ry ⟨ex, a, dx, fs, ey, ha, hsp⟩
  subst ex
  subst ey
  cases (show u = Value.none from rx)
  cases (show v = Value.ref a from ry)
  obtain ⟨mA, J, _⟩ := ins_get I.hok ha
  obtain ⟨od, J, _⟩ := J.look
  show wpAny (model X.prog X.w) X.A (richCompare .Eq .none (.ref a)) (EP X pins σ Q) X.xe s
  refine rc_left hr.units0 I.kIn J (show s.TypeIs .none "NoneType" from rfl) hsub rfl (non_declines a) hs hf ?_
  refine wpAny_mono (own_call F hb hx hr rfl I (x := .ref a) (y := .non) rfl rfl hsp) (fun w s' h => ?_) fun _ _ h => h
  obtain ⟨z, H', rz, I', b, ez, q⟩ := h
  subst ez
  cases (show w = Value.bool b from rz)
  exact ⟨b, rfl, .bl b, H', I', rfl, q⟩
/-- {..} == x -/
def rDctL (C : Addr) (sp : Sp) (E : XK) : R2 := fun x y H Q => ∃ d kvs a dx fs, x = .ref d ∧ H d = some (.dK kvs) ∧ y = .ref a ∧ H a = some (.ins C dx fs) ∧ sp [y, x] H (fun v H' => ∃ b : Bool, v = .bl b ∧ Q (.bl b) H') E
theorem op_eqDctL (F : FnOk X.prog X.w X.K X.mg X.base CX n f fd ps sp) (hsub : PySem.W.subIn X.K (.ref C) (.type "dict") = some false)
    (hs : PySem.W.findIn X.K (.ref C) "__eq__" = some (some (.ref f))) (hf : PySem.W.isFn X.K (.ref f) = true) (hb : L2.Binds X.K fd ps []) (hx : Passes CX X E) (hr : Room n X.A) :
    OpR X (compareOp .Eq) (rDctL C sp E) := by
  intro pins s σ H x y u v Q I rx ry ⟨d, kvs, a, dx, fs, ex, hd, ey, ha, hsp⟩
  subst ex
  subst ey
  cases (show u = Value.ref d from rx)
  cases (show v = Value.ref a from ry)
  obtain ⟨mA, J, _⟩ := ins_get I.hok ha
  obtain ⟨od, J, _⟩ := J.look
  show wpAny (model X.prog X.w) X.A (richCompare .Eq (.ref d) (.ref a)) (EP X pins σ Q) X.xe s
  have hT : s.TypeIs (.ref d) "dict" := TyB.is I (x := .ref d) rfl (.dK hd)
  refine rc_left hr.units0 I.kIn J hT hsub rfl (dict_declines hT I.kIn J hsub) hs hf ?_
  refine wpAny_mono (own_call F hb hx hr rfl I (x := .ref a) (y := .ref d) rfl rfl hsp) (fun w s' h => ?_) fun _ _ h => h
  obtain ⟨z, H', rz, I', b, ez, q⟩ := h
  subst ez
  cases (show w = Value.bool b from rz)
  exact ⟨b, rfl, .bl b, H', I', rfl, q⟩
end
/-! ### dicts of flat things: == of any answer -/
def eqKv (ks ls : List (Key × V)) : Bool := ks.all fun p => match valV ls p.1 with | some u => eqV p.2 u | none => false
theorem hits_flat {P : Program} {w : World} {A : Around} {s : Shared} {ls : List (Key × V)} {vb : List (Key × Value)} (rb : KV ls vb) (fl : ∀ k u, valV ls k = some u → flatV u = true) {ks : List (Key × V)} {va : List (Key × Value)}
    (ra : KV ks va) : (∀ p ∈ ks, flatV p.2 = true) → PySem.W.KeqHitsP P w A s vb va (eqKv ks ls) := by
  unfold KV at ra
  induction ra with
  | nil => intro _; exact .nil
  | @cons p q ps qs h t k =>
    intro hp
    obtain ⟨h1, h2⟩ := h
    have rr : RelO (valV ls p.1) (valueAt vb p.1) := rb.val p.1
    obtain ⟨key, v⟩ := q
    have h1' : p.1 = key := h1
    have rest := k fun p' hm => hp p' (List.mem_cons_of_mem _ hm)
    cases e : valV ls p.1 with
    | none =>
      rw [e] at rr
      have hn : valueAt vb key = none := by
        rw [← h1']
        cases hv : valueAt vb p.1 with
        | none => rfl
        | some z => rw [hv] at rr; exact rr.elim
      have hb : eqKv (p :: ps) ls = false := by unfold eqKv; rw [List.all_cons, e]; rfl
      rw [hb]
      exact .miss hn
    | some u =>
      rw [e] at rr
      obtain ⟨y, hy, ry⟩ := rr.some_of
      rw [h1'] at hy
      have hb : eqKv (p :: ps) ls = (eqV p.2 u && eqKv ps ls) := by unfold eqKv; rw [List.all_cons, e]
      rw [hb]
      exact .hit hy (eqAt_V h2 ry (hp p List.mem_cons_self) (fl _ _ e)).eqP rest
/-- the reading of a == b -/
def rEqDF : R2 := fun x y H Q => ∃ a b ks ls, x = .ref a ∧ y = .ref b ∧ H a = some (.dK ks) ∧ H b = some (.dK ls) ∧ (∀ p ∈ ks, flatV p.2 = true) ∧ (∀ k u, valV ls k = some u → flatV u = true) ∧ Q (.bl (ks.length == ls.length && eqKv ks ls)) H
theorem op_eqDF {X : Cx} (hu : X.A.units + 64 < cLine) : OpR X (compareOp .Eq) rEqDF := by
  intro pins s σ H x y v u Q I rx ry ⟨a, b, ks, ls, ex, ey, ha, hb, f1, f2, q⟩
  subst ex
  subst ey
  cases (show v = Value.ref a from rx)
  cases (show u = Value.ref b from ry)
  obtain ⟨_, ya, va, ra, da⟩ := (show ObjOk X.prog X.w H s.heap a (.dK ks) from I.hok a _ ha)
  obtain ⟨_, yb, vb, rb, db⟩ := (show ObjOk X.prog X.w H s.heap b (.dK ls) from I.hok b _ hb)
  have la : ks.length = va.length := by unfold KV at ra; exact ra.length
  have lb : ls.length = vb.length := by unfold KV at rb; exact rb.length
  refine PySem.W.rcP_dicts (knd := mixKind X.prog X.w) (r := eqKv ks ls) ya yb da db (by omega) (fun _ => hits_flat rb f2 ra f1) _ _ ?_
  rw [← la, ← lb]
  exact ⟨.bl _, H, I, rfl, q⟩
/-! ### list(d.values()) -/
theorem paired_ix {α β : Type} {R : α → β → Prop} : ∀ {xs : List α} {ys : List β}, xs.length = ys.length → (∀ (i : Nat) (y : β), ys[i]? = some y → ∃ x, xs[i]? = some x ∧ R x y) → Paired R xs ys
  | [], [], _, _ => .nil
  | x :: xs, y :: ys, h, k => by
    obtain ⟨x', e, r⟩ := k 0 y rfl
    cases e
    exact .cons r (paired_ix (Nat.succ.inj h) fun i z hz => k (i + 1) z hz)
  | [], _ :: _, h, _ => nomatch h
  | _ :: _, [], h, _ => nomatch h
def tListVals (td : TE) : TE := fun σ H Q => td σ H fun x H1 => ∃ a kvs, x = V.ref a ∧ H1 a = some (.dK kvs) ∧ ∀ p, H1 p = none → Q (.ref p) (upd H1 p (.lst (kvs.map (·.2))))
theorem pe_listVals {X : Cx} {o : Expr} {td : TE} {p pos apos mpos : Pos} (hc : X.calm = true) (hg : Gl X "list") (hm : X.mg "list" = none) (hd : PE X o td) (hbase : attributeBase o "values" X.env (eval o X.env) = eval o X.env := by rfl) (hline : (apos.endLine == mpos.line) = true := by rfl)
    (hse : starEach [Expr.Call (.Attribute o "values" apos) [] [] mpos] X.env = [(false, eval (Expr.Call (.Attribute o "values" apos) [] [] mpos) X.env)] := by rfl) :
    PE X (.Call (.Name "list" p) [.Call (.Attribute o "values" apos) [] [] mpos] [] pos) (tListVals td) := by
  refine ⟨fun pins s σ H Q I h => ?_⟩
  refine wpAny_Call_Name_kw (ld_blt I hg hm (u := .type "list") (by first | rfl | decide +kernel) ?_ (by first | decide +kernel | decide) (by first | decide +kernel | decide))
  rw [hse]
  refine PySem.callWith_type1 (wpAny_Call_method0_late hbase hline (thn (hd.run pins s σ H _ I h) fun v s1 ⟨x, H1, I1, r1, a, kvs, ex, ha, q⟩ => ?_))
  subst ex
  obtain rfl : v = Value.ref a := r1
  obtain ⟨hz, hsys, vs, rel, dof⟩ := dk_of I1.hok ha
  obtain ⟨ep, dat⟩ := dof.dictAt
  have dat' := dat
  obtain ⟨ob, es, ho, ex, hdat, hko, hpr, hnd⟩ := dat'
  refine ⟨"dict", "dict.values", F.plainAttrs_dict, F.slot_dict_values, F.type_dict_values, ⟨ob, ho, ex.1⟩, fun b e => ?_, Calls.callWith_builtin rfl (PySem.evalArgs_none ?_)⟩
  · cases e
    exact ⟨ob, ho, ex.2.1⟩
  refine call_meetsIn F.slot_dict_values ⟨ob, ho, ex.1⟩ F.entry_dict_values (F.args_dict_values_1 _) (meets_dict_values (mixKind X.prog X.w) a hsys) ⟨⟨vs, dof⟩, ?_⟩
  have k1 : ∀ b u, s1.heap.get? b = some u → (s1.heap.push { cls := .type "dict_values", data := .fields #[.ref a] }).get? b = some u := fun b u e => Heap.get?_push_of_some _ e
  have dat1 : (s1.heap.push { cls := .type "dict_values", data := .fields #[.ref a] }).DictAt (mixKind X.prog X.w) a vs ep := dat.keep k1
  have I2 : L2.Inv X pins σ H1 { s1 with heap := s1.heap.push { cls := .type "dict_values", data := .fields #[.ref a] } } := I1.kept (t' := s1.toks) k1
  have hlv : kvs.length = vs.length := by unfold KV at rel; exact rel.length
  refine PySem.W.kdl_call (s := { s1 with heap := s1.heap.push { cls := .type "dict_values", data := .fields #[.ref a] } }) (PySem.W.kdl_values (knd := mixKind X.prog X.w) (kvs := vs) (ep := ep) (r := s1.heap.objs.size) (d := a)) (I.ok.hd hc) ⟨⟨_, Heap.get?_push_size _ rfl, rfl, rfl⟩, dat1⟩ (by rw [← hlv]; exact hz) fun h' tk acc c' hk hD hacc => ?_
  have hv : L2.Vals (kvs.map (·.2)) acc.toList := by
    refine paired_ix (by rw [List.length_map, Array.length_toList]; exact hlv.trans hacc.1.symm) fun i v e => ?_
    obtain ⟨k, hk2⟩ := hacc.2 i v (by rw [← Array.getElem?_toList]; exact e)
    obtain ⟨x, h1, h2⟩ := KV.at' rel hk2
    exact ⟨x, by rw [List.getElem?_map, h1] <;> rfl, h2⟩
  refine ⟨.ref _, upd H1 _ (.lst (kvs.map (·.2))), I2.laid (t' := tk) hk (Nat.le_refl _)
    (show ObjOk X.prog X.w _ _ _ (.lst (kvs.map (·.2))) from ⟨by rw [List.length_map]; exact hz, acc.toList, c', hv, by rw [Array.toArray_toList]; exact hD⟩), rfl, q _ (I2.hok.fresh (Nat.le_refl _))⟩
end Own
set_option Elab.async false
set_option linter.all false
set_option maxRecDepth 100000
set_option maxHeartbeats 2000000
/-! x in d.values(); iter(d); what is walked of an instance whose own __iter__ returns iter(d) -/
namespace Own
open PySem PySem.Spec PyProof.Rows L2
/-! ### d.values() as a value, and x in it -/
def VvO (d v : Addr) : HO := .ext fun h => h.IsValuesView v d
theorem mt_values {X : Cx} : MtR X "dict.values" (fun x vs H Q => ∃ (d : Addr) (kvs : List (Key × V)), x = .ref d ∧ vs = [] ∧ H d = some (.dK kvs) ∧ ∀ v, H v = none → Q (.ref v) (upd H v (VvO d v))) := by
  intro pins s σ H x xs v us Q I rx rv ⟨d, kvs, ex, e0, hd, q⟩
  subst ex
  subst e0
  cases rv
  cases (show v = Value.ref d from rx)
  obtain ⟨hz, hsys, vs, rel, dof⟩ := dk_of I.hok hd
  refine call_meetsIn F.slot_dict_values dof.typeIs F.entry_dict_values (F.args_dict_values_1 _) (meets_dict_values (mixKind X.prog X.w) d hsys) ⟨⟨vs, dof⟩, ?_⟩
  have hg : (s.heap.push { cls := .type "dict_values", data := .fields #[.ref d] }).get? s.heap.objs.size = some { cls := .type "dict_values", data := .fields #[.ref d] } := Heap.get?_push_size _ rfl
  refine ⟨.ref s.heap.objs.size, upd H _ (VvO d _), I.laid (t' := s.toks) (fun b u e => Heap.get?_push_of_some _ e) (Nat.le_refl _) ?_, rfl, q _ (I.hok.fresh (Nat.le_refl _))⟩
  exact ⟨⟨_, hg, rfl, rfl⟩, ⟨_, hg⟩, fun h1 h2 ⟨o, e, r⟩ k => ⟨o, k _ e, r⟩⟩
theorem entry_citer : entryFor table "proto.contains_iter" = some Builtin.«proto.contains_iter» := entryFor_of_fast (by kernel_rfl)
theorem plain_citer : plainId "proto.contains_iter" = true := by decide +kernel
theorem vals_noc : typeLookup (.type "dict_values") "__contains__" = pure none := by rw [typeLookup_type, builtinLookup_eq_fast]; kernel_rfl
section
variable {prog : Program} {w : World} {A : Around} {I : Addr} {fp wr : List Addr} {vs : List Value} {St : Nat → Heap → Prop}
theorem citer_loop {R : Result → Shared → Prop} (W : Walks prog w A.in1 I fp wr vs.length (fun i v => vs[i]? = some v) St) (x : Value) (r : Value → Bool) (heq : ∀ v ∈ vs, ∀ s, SeqAt.EqAt A.in1 s v x (r v)) :
    ∀ (k i : Nat) (s : Shared), vs.length - i = k → i ≤ vs.length → St i s.heap →
    (∀ h' tk, (∀ b o, b ∉ wr → s.heap.get? b = some o → h'.get? b = some o) → R (.ok (.ret (.bool ((vs.drop i).any r)))) { s with heap := h', toks := tk }) →
    codeAny (model prog w) A (.builtin "proto.contains_iter" ⟨[.ref I, x], []⟩) R s := by
  intro k
  induction k with
  | zero =>
    intro i s hk hi hst hR
    have e : i = vs.length := by omega
    subst e
    refine codeAny_builtin entry_citer ?_
    rw [Around.under_plainId plain_citer _]
    show wpAny _ A.in1 (pyNext (.ref I) >>= _) _ _ s
    refine wpAny_bind (W.done s _ _ hst fun h' tk hm => ?_)
    have q := hR h' tk hm
    rw [List.drop_length] at q
    exact wpAny_bind (wpAny_rule (wpAny_pure q))
  | succ k ih =>
    intro i s hk hi hst hR
    have hlt : i < vs.length := by omega
    refine codeAny_builtin entry_citer ?_
    rw [Around.under_plainId plain_citer _]
    show wpAny _ A.in1 (pyNext (.ref I) >>= _) _ _ s
    refine wpAny_bind (W.item i s _ _ hlt hst fun v h' tk hP hst' hm => ?_)
    have hv : vs[i] = v := by rw [List.getElem?_eq_getElem hlt] at hP; exact Option.some.inj hP
    show wpAny _ A.in1 (eqBool v x >>= _) _ _ _
    refine wpAny_bind (heq v (List.mem_of_getElem? hP) _ _ _ _ _ ?_)
    have ed : (vs.drop i).any r = (r v || (vs.drop (i + 1)).any r) := by rw [List.drop_eq_getElem_cons hlt, List.any_cons, hv]
    cases hr : r v with
    | true =>
      rw [ed, hr, Bool.true_or] at hR
      refine wpAny_bind (wpAny_rule (wpAny_pure (hR h' tk hm)))
    | false =>
      rw [ed, hr, Bool.false_or] at hR
      exact wpAny_pure ⟨plainId_quiet plain_citer _, ih (i + 1) { s with heap := h', toks := tk } (by omega) hlt hst' fun h2 tk2 hm2 => hR h2 tk2 fun b o nb e => hm2 b o nb (hm b o nb e)⟩
end
def rInVals (K : PySem.W.Frag) : R2 := fun x y H Q => ∃ v d kvs, y = .ref v ∧ H v = some (VvO d v) ∧ Rd H d (.dK kvs) ∧ flatV x = true ∧ (kvs.map (·.2)).all flatV = true ∧ Q (.bl (inV x (kvs.map (·.2)))) H
theorem op_inVals {X : Cx} (hc : X.calm = true) : OpR X (compareOp .In) (rInVals X.K) := by
  intro pins s σ H x y v u Q I rx ry ⟨va, d, kvs, ey, hv, hd, fx, fs, q⟩
  subst ey
  cases (show u = Value.ref va from ry)
  have view : s.heap.IsValuesView va d := (show ObjOk X.prog X.w H s.heap va (VvO d va) from I.hok va _ hv).1
  obtain ⟨hz, hsys, vs, rel, dof⟩ := dk_rd I.hok hd
  obtain ⟨ep, dat⟩ := dof.dictAt
  have hT := view.typeIs
  have hlv : kvs.length = vs.length := by unfold KV at rel; exact rel.length
  have hvals : Vals (kvs.map (·.2)) (vs.map (·.2)) := paired_ix (by rw [List.length_map, List.length_map]; exact hlv) fun i z e => by
    rw [List.getElem?_map] at e
    cases e2 : vs[i]? with
    | none => rw [e2] at e; cases e
    | some p =>
      rw [e2] at e
      obtain ⟨y, h1, h2⟩ := KV.at' rel (i := i) (k := p.1) (v := p.2) e2
      obtain rfl : p.2 = z := Option.some.inj e
      exact ⟨y, by rw [List.getElem?_map, h1]; rfl, h2⟩
  show wpAny (model X.prog X.w) X.A ((contains (.ref va) v) >>= fun b => pure (Value.bool b)) (EP X pins σ Q) X.xe s
  refine wpAny_bind ?_
  unfold contains
  refine wpAny_holding ?_
  have e0 : stdlibNamesSay? (.ref va) v = none := by
    first | rfl | (cases v <;> rfl)
  simp only [e0]
  refine wpAny_bind (wpAny_specialOf hT vals_noc ?_)
  refine wpAny_ite_split (fun hab => absurd hab (by decide)) (fun _ => ?_)
  unfold callSpecialUnlessNone?
  refine wpAny_bind (wpAny_bind (wpAny_specialOf hT vals_noc ?_))
  refine wpAny_pure ?_
  refine wpAny_bind (wpAny_rule ?_)
  refine wpAny_bind (wpAny_tryCatch (wpAny_pyIter_values (knd := mixKind X.prog X.w) view dat ?_))
  have kp : ∀ b o, s.heap.get? b = some o → (s.heap.push { cls := .type "dict_valueiterator", data := .fields #[.ref d, .int 0 0, .int vs.length 0, .int ep 0] }).get? b = some o := fun b o e => Heap.get?_push_of_some _ e
  have hit : (s.heap.push { cls := .type "dict_valueiterator", data := .fields #[.ref d, .int 0 0, .int vs.length 0, .int ep 0] }).IsValIter s.heap.objs.size d 0 vs.length ep := ⟨_, Heap.get?_push_size _ rfl, rfl, rfl⟩
  have ne : d ≠ s.heap.objs.size := Nat.ne_of_lt dat.lt_size
  have W := Walks.dictValues (prog := X.prog) (w := X.w) (A := X.A.in1.in1) (knd := mixKind X.prog X.w) (I.ok.hd hc) s.heap.objs.size d ne vs ep
  have ln : (vs.map (·.2)).length = vs.length := List.length_map ..
  have W2 : Walks X.prog X.w X.A.in1 s.heap.objs.size [s.heap.objs.size, d] [s.heap.objs.size] (vs.map (·.2)).length (fun i v => (vs.map (·.2))[i]? = some v) (fun i h => h.IsValIter s.heap.objs.size d i vs.length ep ∧ h.DictAt (mixKind X.prog X.w) d vs ep) :=
    ⟨W.of_in1.sub, W.of_in1.frame, fun i s Q E hi st hQ => W.of_in1.item i s Q E (by rw [ln] at hi; exact hi) st fun z h' tk hP => hQ z h' tk (by
      obtain ⟨k, e⟩ := hP
      rw [List.getElem?_map, e]
      rfl), fun s Q E st hQ => W.of_in1.done s Q E (by rw [ln] at st; exact st) hQ, W.of_in1.self⟩
  refine wpAny_bind (wpAny_runValue (citer_loop W2 v (eqU x) (fun z hz s' => mem_eqAt rx ‹_› hvals fs z hz) _ 0 { s with heap := _ } rfl (Nat.zero_le _) ⟨hit, dat.push _⟩ fun h' tk hm => ?_))
  have kp2 : ∀ b o, s.heap.get? b = some o → h'.get? b = some o := fun b o e => hm b o (fun z => by
    rw [List.mem_singleton.mp z] at e
    exact Nat.lt_irrefl _ (Heap.lt_size e)) (kp b o e)
  have fin : wpAny (model X.prog X.w) X.A (pure (Value.bool (inV x (kvs.map (·.2))))) (EP X pins σ Q) X.xe { s with heap := h', toks := tk } := wpAny_pure ⟨.bl _, H, I.kept (t' := tk) kp2, rfl, q⟩
  rw [List.drop_zero, any_eqU hvals fs]
  exact wpAny_pure fin
theorem inValsOf {X : Cx} {K : PySem.W.Frag} (h : X.K = K) (hc : X.calm = true) : OpR X (compareOp .In) (rInVals K) := h ▸ op_inVals hc
theorem bm0Of {X : Cx} {K : PySem.W.Frag} (h : X.K = K) {T id : String} {name : Str} {o : Expr} {to : TE} {r : V → List V → Hp → VK → Prop} {apos cpos : Pos} (pa : PlainAttrs T) (slot : Slot T name id) (hty : typeOf (.builtin id) = pure (.type "method_descriptor")) (hm : MtR X id r) (ho : PE X o to)
    (hbase : attributeBase o name X.env (eval o X.env) = eval o X.env := by rfl) (hline : (apos.endLine == cpos.line) = true := by rfl) : PE X (.Call (.Attribute o name apos) [] [] cpos) (tBM0 K T r to) := h ▸ pe_bm0 pa slot hty hm ho hbase hline
end Own
set_option Elab.async false
set_option linter.all false
set_option maxRecDepth 100000
set_option maxHeartbeats 2000000
/-! iter(d); what is walked of an instance whose own __iter__ returns iter(d) -/
namespace Own
open PySem PySem.Spec PyProof.Rows L2
/-! ### a base as large as the heap of a call -/
def padTo (h : Heap) (n : Nat) : Heap := { h with objs := h.objs ++ Array.replicate (n - h.objs.size) { cls := .none, data := .freed } }
theorem padTo_get {h : Heap} {n : Nat} {b : Addr} : (padTo h n).get? b = h.get? b := by
  unfold padTo Heap.get?
  rcases Nat.lt_or_ge b h.objs.size with lt | ge
  · rw [Array.getElem?_append_left lt]
  · rw [Array.getElem?_append_right ge, Array.getElem?_eq_none ge]
    rcases Nat.lt_or_ge (b - h.objs.size) (n - h.objs.size) with l2 | g2
    · rw [Array.getElem?_replicate, if_pos l2]
    · rw [Array.getElem?_replicate, if_neg (Nat.not_lt.mpr g2)]
theorem padTo_size {h : Heap} {n : Nat} (hn : h.objs.size ≤ n) : (padTo h n).objs.size = n := by
  unfold padTo
  simp only [Array.size_append, Array.size_replicate]
  omega
theorem padTo_ns {h : Heap} {n : Nat} {a : Addr} {m : Str → Option Value} (x : h.Ns a m) : (padTo h n).Ns a m := x.keeps fun b o e => padTo_get.trans e
theorem padTo_mod {K : PySem.W.Frag} {mg : Str → Option Value} {h : Heap} {n : Nat} (M : Mod K mg h) : Mod K mg (padTo h n) :=
  ⟨M.kin.keeps fun b o e => padTo_get.trans e, padTo_ns M.glob, M.blt.imp fun mb z => ⟨padTo_ns z.1, z.2⟩, M.nolimit.imp fun mc z => ⟨padTo_ns z.1, z.2⟩⟩
theorem padTo_frames {h base : Heap} {n : Nat} : ∀ {l : List Env}, h.FunFrames base l → h.FunFrames (padTo base n) l
  | [], _ => trivial
  | env :: rest, ⟨hk, ⟨L, o, hf, hn, ho, hd⟩, hr⟩ => ⟨hk, ⟨L, o, hf, padTo_get.trans hn, ho, hd⟩, padTo_frames hr⟩
section
variable {X : Cx} {pins : List (Addr × Obj)} {σ : L2.St} {H : Hp} {s : Shared}
theorem env_pad {A1 : Around} (hf : A1.frames = X.A.frames) (I : L2.Inv X pins σ H s) : Env0 X.prog X.w X.K X.mg (padTo X.base s.heap.objs.size) A1 X.stack s H := by
  have e := I.env0
  exact ⟨hf.trans e.frames, padTo_mod e.mod, fun b o z => e.bs b o (padTo_get.symm.trans z), by rw [padTo_size e.bsz]; exact Nat.le_refl _, padTo_frames e.funs, e.frf, e.hok, e.bare⟩
end
/-! ### iter(d) -/
def KiO (d : Addr) (od : Obj) (it : Addr) : HO := .ext fun h => ∃ es ep, od.data = .dict es ep ∧ h.IsKeyIter it d 0 es.size ep
def rIterD (n : Nat) : List V → Hp → VK → Prop := fun xs H Q => ∃ (d : Addr) (od : Obj) (kvs : List (Key × V)), xs = [.ref d] ∧ H d = some (.frz od (.dK kvs)) ∧ ∀ it, H it = none → n ≤ it → Q (.ref it) (upd H it (KiO d od it))
theorem call_iterD {X : Cx} : CallR X (.builtin "iter") (rIterD X.base.objs.size) := by
  intro pins s σ H xs us Q I r ⟨d, od, kvs, ex, hd, q⟩
  subst ex
  obtain rfl := Vals.ref1 r
  obtain ⟨hs, hgd, hx, es, ep, vs, hdt, hsz, kv, hm⟩ := I.frzK hd
  refine Calls.call_function_entry (by decide +kernel) (by decide +kernel) PySem.W.kdk_entry_iter (PySem.W.kdk_args_iter _) ?_
  unfold Builtin.«iter»
  refine wpAny_bind (m := someArgs "iter" 1 2 _) (wpAny_of_eq (a := [Value.ref d]) (by first | rfl | kernel_rfl!) ?_)
  show wpAny _ _ (pyIter (.ref d) >>= fun z => ret z) _ _ s
  refine wpAny_bind (iter_keys hs hgd hx hdt ?_)
  have hg : (s.heap.push { cls := .type "dict_keyiterator", data := .fields #[.ref d, .int 0 0, .int es.size 0, .int ep 0] }).get? s.heap.objs.size = some { cls := .type "dict_keyiterator", data := .fields #[.ref d, .int 0 0, .int es.size 0, .int ep 0] } := Heap.get?_push_size _ rfl
  refine wpAny_pure ⟨_, rfl, .ref s.heap.objs.size, upd H _ (KiO d od _), I.laid (t' := s.toks) (fun b u e => Heap.get?_push_of_some _ e) (Nat.le_refl _) ?_, rfl, q _ (I.hok.fresh (Nat.le_refl _)) (Nat.le_trans I.ok.bsz I.sz)⟩
  exact ⟨⟨es, ep, hdt, ⟨_, hg, rfl, rfl⟩⟩, ⟨_, hg⟩, fun h1 h2 ⟨es, ep, e, o, e1, r⟩ k => ⟨es, ep, e, o, k _ e1, r⟩⟩
/-- what __iter__ of the own class tells: an iterator over a dict's keys -/
def ItTold (R : It → Hp → Prop) (m : Nat) : VK := fun v H2 => ∃ it d od kvs, v = V.ref it ∧ H2 it = some (KiO d od it) ∧ H2 d = some (.frz od (.dK kvs)) ∧ m ≤ it ∧ R (Itk d od kvs) (ItX.dropH H2 it)
def iOwn (C : Addr) (sp : Nat → Sp) (E : XK) (te : TE) : TI := fun σ H R => te σ H fun x H1 => ∃ a dx fs, x = V.ref a ∧ H1 a = some (.ins C dx fs) ∧ ∀ m, sp m [x] H1 (ItTold R m) E
section
variable {X : Cx} {CX : CXT} {C f : Addr} {fd : FuncData} {ps : List Str} {n : Nat} {sp : Nat → Sp} {E : XK}
theorem own_it (F : ∀ base, FnOk X.prog X.w X.K X.mg base CX n f fd ps (sp base.objs.size)) (hb : L2.Binds X.K fd ps []) (hx : Passes CX X E) {A : Around} (hr : Room n A) (hfr : A.frames = X.A.frames)
    (hs : PySem.W.findIn X.K (.ref C) "__iter__" = some (some (.ref f))) (hf : PySem.W.isFn X.K (.ref f) = true)
    {pins : List (Addr × Obj)} {s : Shared} {σ : L2.St} {H : Hp} {a dx : Addr} {fs : List (Str × V)} {T : Nat → VK} (hT : ∀ m v H2, T m v H2 → ∃ it d od, v = V.ref it ∧ H2 it = some (KiO d od it)) (I : L2.Inv X pins σ H s) (ha : H a = some (.ins C dx fs)) (hsp : ∀ m, sp m [.ref a] H (T m) E) :
    wpAny (model X.prog X.w) A (pyIter (.ref a)) (fun u s' => ∃ it H2, u = .ref it ∧ L2.Inv X pins σ H2 s' ∧ T s.heap.objs.size (.ref it) H2) X.xe s := by
  obtain ⟨mA, J, _⟩ := ins_get I.hok ha
  obtain ⟨od0, J, _⟩ := J.look
  obtain ⟨m, hF⟩ := I.fr
  refine PySem.W.owit_iter hF I.ok.mod.kin J hs hf ?_
  have e0 := env_pad hfr I
  have hsp := hsp (padTo X.base s.heap.objs.size).objs.size
  have F := F (padTo X.base s.heap.objs.size)
  have hl := F.len _ _ _ _ hsp
  have r2 : L2.Vals [V.ref a] [Value.ref a] := .cons rfl .nil
  refine wpAny_call (codeAny_mono (F.run A X.stack s H ⟨[.ref a], []⟩ [.ref a] [.ref a] _ E hr e0 (by
    have := hb s [.ref a] I.kIn (by simpa using hl)
    simpa using this) r2 hsp) fun r s' hq => ?_)
  rw [padTo_size (Nat.le_trans I.ok.bsz I.sz)] at hq
  cases r with
  | error e => exact hx pins σ H s e s' I hq
  | ok fl =>
    cases fl with
    | ret u =>
      obtain ⟨v, H2, I2, rv, ht⟩ := I.after hq
      obtain ⟨it, d, od, ev, h1⟩ := hT _ _ _ ht
      subst ev
      cases (show u = Value.ref it from rv)
      have hk : ∃ es ep, od.data = .dict es ep ∧ s'.heap.IsKeyIter it d 0 es.size ep := (show ObjOk X.prog X.w H2 s'.heap it (KiO d od it) from I2.hok it _ h1).1
      obtain ⟨es, ep, _, hk⟩ := hk
      show PySem.W.OwitIt _ _ _ _ _ _
      unfold PySem.W.OwitIt
      refine wpAny_specialOf hk.typeIs PySem.F.slot_dict_keyiterator_next.lookup ?_
      exact ⟨it, H2, rfl, I2, ht⟩
    | next => exact False.elim hq
    | brk => exact False.elim hq
    | cont => exact False.elim hq
theorem pi_own {tg e : Expr} {te : TE} (F : ∀ base, FnOk X.prog X.w X.K X.mg base CX n f fd ps (sp base.objs.size)) (hb : L2.Binds X.K fd ps []) (hx : Passes CX X E) (hr : Room n X.A)
    (hs : PySem.W.findIn X.K (.ref C) "__iter__" = some (some (.ref f))) (hf : PySem.W.isFn X.K (.ref f) = true) (he : PE X e te) : PI X tg e (iOwn C sp E te) := by
  refine ⟨fun pins s σ H R I h => ?_⟩
  refine thn (he.run pins s σ H _ I h) fun v s1 ⟨x, H1, I1, r1, a, dx, fs, ex, ha, hsp⟩ => ?_
  subst ex
  cases (show v = Value.ref a from r1)
  refine wpAny_mono (own_it F hb hx hr rfl hs hf (fun m v H2 ⟨it, d, od, kvs, e1, e2, _⟩ => ⟨it, d, od, e1, e2⟩) I1 ha hsp) (fun u s2 h2 => ?_) fun _ _ z => z
  obtain ⟨it0, H2, eu, I2, it, d, od, kvs, e0, hi, hd, hz, hR⟩ := h2
  have e9 : it = it0 := by cases e0; rfl
  subst e9
  have hz := Nat.le_trans I1.sz hz
  obtain ⟨es, ep, hod, hk⟩ := (show ObjOk X.prog X.w H2 s2.heap it (KiO d od it) from I2.hok it _ hi).1
  obtain ⟨_, _, _, es2, ep2, vs, hdt, hsz, kv, hm⟩ := I2.frzK hd
  obtain ⟨e1, e2⟩ := dict_ep hod hdt
  subst e1
  rw [hsz] at hk
  refine ⟨it, [it], _, _, _, eu, ItX.inv_drop I2 hi, turn_keys it hod, hk, fun b hb => ?_, hR⟩
  rw [List.mem_singleton.mp hb]
  exact ItX.inv_fp I2 hi hz
/-- the keys fill a list -/
theorem key_loop {pins : List (Addr × Obj)} {σ : L2.St} {A : Around} {Rs : Result → Shared → Prop} {S d it : Addr} {od : Obj} {kvs : List (Key × V)} {ep : Nat} {es : Array DictEntry} (hh : A.handled = none) (hod : od.data = .dict es ep) (hz : kvs.length ≤ sizeLine) (hS : S ≠ it) (hSd : S ≠ d)
    : ∀ (k i : Nat) (H : Hp) (s : Shared), kvs.length - i = k → i ≤ kvs.length → L2.Inv X pins σ H s → FpOk X pins H it → H d = some (.frz od (.dK kvs)) → H S = some (.lst ((kvs.take i).map fun p => kV p.1)) → s.heap.IsKeyIter it d i kvs.length ep →
      (∀ s', L2.Inv X pins σ (upd H S (.lst (kvs.map fun p => kV p.1))) s' → Rs (.ok (.ret .none)) s') →
      codeAny (model X.prog X.w) A (.builtin "list.extend.loop" ⟨[.ref S, .ref it, .none], []⟩) Rs s := by
  intro k
  induction k with
  | zero =>
    intro i H s hk hi I fp hd hl st hR
    have e : i = kvs.length := by omega
    subst e
    obtain ⟨f0, f1, f2, f3, f4, f5⟩ := fp
    obtain ⟨_, hgd, _, es2, ep2, vs, hdt, hsz, kv, hm⟩ := I.frzK hd
    obtain ⟨e1, e2⟩ := dict_ep hod hdt
    subst e1
    subst e2
    refine codeAny_builtin PySem.F.entry_extend_loop ?_
    rw [Around.under_plainId PySem.F.plain_extend_loop _]
    show wpAny _ A.in1 (pyNext (.ref it) >>= _) _ _ s
    refine wpAny_bind (next_key_end hh st hgd hdt hsz (Nat.le_refl _) fun h' eb => ?_)
    have I1 := I.turned (t' := s.toks) (fun b o hb e => eb b o hb e) f0 f1 f3 f4 f5
    rw [List.take_length] at hl
    refine wpAny_pure (hR _ ?_)
    rw [show upd H S (.lst (kvs.map fun p => kV p.1)) = H from by
      funext b
      by_cases hb : b = S
      · rw [hb, upd_same, hl]
      · rw [upd_ne hb]]
    exact I1
  | succ k ih =>
    intro i H s hk hi I fp hd hl st hR
    have hlt : i < kvs.length := by omega
    obtain ⟨f0, f1, f2, f3, f4, f5⟩ := fp
    obtain ⟨_, hgd, _, es2, ep2, vs, hdt, hsz, kv, hm⟩ := I.frzK hd
    obtain ⟨e1, e2⟩ := dict_ep hod hdt
    subst e1
    subst e2
    have hlv : kvs.length = vs.length := Paired.length kv
    obtain ⟨u, hu, ru⟩ := kv_get kv (show kvs[i]? = some (kvs[i].1, kvs[i].2) from List.getElem?_eq_getElem hlt)
    refine codeAny_builtin PySem.F.entry_extend_loop ?_
    rw [Around.under_plainId PySem.F.plain_extend_loop _]
    show wpAny _ A.in1 (pyNext (.ref it) >>= _) _ _ s
    rw [hlv] at st
    refine wpAny_bind (wpAny_pyNext_dict_item st hm hu fun key h' hkey st' sb => ?_)
    have I1 : L2.Inv X pins σ H { s with heap := h' } := I.turned (t' := s.toks) (fun b ob hb e => (sb.2 b hb).trans e) f0 f1 f3 f4 f5
    obtain ⟨z, its, cc, r2, hln, e⟩ := I1.lstM hl
    have lt2 : its.length = i := by rw [← hln, List.length_map, List.length_take]; omega
    show wpAny _ A.in1 (updateSeq S (·.push key) >>= _) _ _ _
    have et : (kvs.take (i + 1)).map (fun p => kV p.1) = (kvs.take i).map (fun p => kV p.1) ++ [kV kvs[i].1] := by rw [List.take_succ, List.getElem?_eq_getElem hlt, List.map_append]; rfl
    refine wpAny_bind (wpAny_updateSeq e rfl (wpAny_pure ⟨plainId_quiet PySem.F.plain_extend_loop _, ?_⟩) (by rw [List.size_toArray]; omega) (by show (its.toArray.push key).size ≤ sizeLine + 1; rw [Array.size_push, List.size_toArray]; omega))
    have I3 := I1.lset (f := (·.push key)) (its' := its ++ [key]) (t' := s.toks) hl e (by simp) (r2.append (.cons (relV_key (show keyIs kvs[i].1 key = true from hkey)) .nil)) (by rw [List.length_append, List.length_singleton, List.length_map, List.length_take]; omega)
    rw [← et] at I3
    have hit2 : (upd H S (.lst ((kvs.take (i + 1)).map fun p => kV p.1))) it = none := by rw [upd_ne hS.symm]; exact f0
    refine ih (i + 1) _ _ (by omega) hlt I3 ⟨hit2, f1, f2, f3, f4, f5⟩ (by rw [upd_ne hSd.symm]; exact hd) upd_same ?_ (fun s' J => hR s' (by rw [upd_upd] at J; exact J))
    show (h'.update S _).IsKeyIter it d (i + 1) kvs.length _
    rw [hlv]
    exact st'.at fun o e => (Heap.get?_update_other _ _ hS).trans e
end
end Own
set_option Elab.async false
set_option linter.all false
set_option maxRecDepth 100000
set_option maxHeartbeats 2000000
/-! list(o), o an instance whose own __iter__ returns iter(d) -/
namespace Own
open PySem PySem.Spec PyProof.Rows L2
/-- a class that tells no length -/
theorem hint_no {M : Model} {A : Around} {E : Value → Shared → Prop} {s : Shared} {Q : Bool → Shared → Prop} {K : PySem.W.Frag} {a C : Addr} {ox : Obj} {od : Option Obj} (n1 : PySem.W.findIn K (.ref C) "__len__" = some none) (n2 : PySem.W.findIn K (.ref C) "__length_hint__" = some none)
    (hK : K.In s.heap) (J : PySem.W.InstAt s.heap a ox C od) (q : Q true s) : wpAny M A (Builtin.List.listLengthHint (.ref a)) Q E s := by
  have l1 := PySem.W.looks_findIn (M := M) hK n1
  have l2 := PySem.W.looks_findIn (M := M) hK n2
  unfold Builtin.List.listLengthHint
  refine wpAny_bind (wpAny_bind (J.type.here (l1.here ?_)))
  refine PySem.W.KFB.if_not (by rfl) (PySem.W.KFB.if_not (by rfl) ?_)
  exact wpAny_bind (wpAny_bind (J.type.here (l2.here (wpAny_pure q))))
def ListTold (C a S : Addr) (Q : VK) (m : Nat) : VK := fun v H2 => ∃ it d od kvs, v = V.ref it ∧ H2 it = some (KiO d od it) ∧ H2 d = some (.frz od (.dK kvs)) ∧ H2 S = some (.lst []) ∧ m ≤ it ∧ (∃ dx fs, H2 a = some (.ins C dx fs)) ∧ Q (.ref S) (upd (ItX.dropH H2 it) S (.lst (kvs.map fun p => kV p.1)))
def rListIt (C : Addr) (sp : Nat → Sp) (E : XK) : List V → Hp → VK → Prop := fun xs H Q => ∃ a dx fs, xs = [V.ref a] ∧ H a = some (.ins C dx fs) ∧ ∀ S, H S = none → ∀ m, sp m [.ref a] (upd H S (.lst [])) (ListTold C a S Q m) E
section
variable {X : Cx} {CX : CXT} {C f : Addr} {fd : FuncData} {ps : List Str} {n : Nat} {sp : Nat → Sp} {E : XK}
theorem list_fill {pins : List (Addr × Obj)} {σ : L2.St} {A : Around} {Rs : Result → Shared → Prop} {S a dx : Addr} {fs : List (Str × V)} {H : Hp} {s : Shared} {Q : VK}
    (F : ∀ base, FnOk X.prog X.w X.K X.mg base CX n f fd ps (sp base.objs.size)) (hb : L2.Binds X.K fd ps []) (hx : Passes CX X E) (hr : Room n A.in1) (hfr : A.in1.frames = X.A.frames) (hh : A.handled = none)
    (hs : PySem.W.findIn X.K (.ref C) "__iter__" = some (some (.ref f))) (hf : PySem.W.isFn X.K (.ref f) = true) (n1 : PySem.W.findIn X.K (.ref C) "__len__" = some none) (n2 : PySem.W.findIn X.K (.ref C) "__length_hint__" = some none)
    (I : L2.Inv X pins σ H s) (ha : H a = some (.ins C dx fs)) (hS : H S = some (.lst [])) (hsp : ∀ m, sp m [.ref a] H (ListTold C a S Q m) E)
    (done : ∀ H' s', L2.Inv X pins σ H' s' → Q (.ref S) H' → Rs (.ok (.ret .none)) s') (bad : ∀ e s', X.xe e s' → Rs (.error e) s') :
    wpAny (model X.prog X.w) A.in1 (Builtin.List.listExtendWith (.ref S) (.ref a) .none)
      (fun fin s' => match fin with | .done g => Rs (.ok g) s' | .again c' => c'.quiet = true ∧ codeAny (model X.prog X.w) A c' Rs s') (fun e s' => Rs (.error e) s') s := by
  have neS : S ≠ a := ne_of hS ha (fun z => nomatch z)
  obtain ⟨mA, J, _⟩ := ins_get I.hok ha
  obtain ⟨od0, J, _⟩ := J.look
  have t1 : Builtin.List.listSameRef (.ref S) (.ref a) = false := by simp [Builtin.List.listSameRef, neS]
  have t2 : (Value.ref C == Value.type "list" || Value.ref C == Value.type "tuple") = false := rfl
  unfold Builtin.List.listExtendWith
  refine wpAny_bind (J.type.here ?_)
  rw [t1, Bool.false_or]
  simp only [t2, Bool.false_eq_true, if_false]
  refine wpAny_bind (wpAny_mono (own_it F hb hx hr hfr hs hf (fun m v H2 ⟨it, d, od, kvs, e1, e2, _⟩ => ⟨it, d, od, e1, e2⟩) I ha hsp) (fun u s2 h2 => ?_) bad)
  obtain ⟨it0, H2, eu, I2, it, d, od, kvs, e0, hi, hd, hS2, hz, ⟨dx2, fs2, ha2⟩, hQ⟩ := h2
  subst eu
  have e9 : it = it0 := by cases e0; rfl
  subst e9
  obtain ⟨mB, J2, _⟩ := ins_get I2.hok ha2
  obtain ⟨od2, J2, _⟩ := J2.look
  refine wpAny_bind (wpAny_holding (hint_no n1 n2 I2.kIn J2 ?_))
  obtain ⟨es, ep, hod, hk⟩ := (show ObjOk X.prog X.w H2 s2.heap it (KiO d od it) from I2.hok it _ hi).1
  obtain ⟨_, _, _, es2, ep2, vs, hdt, hsz, kv, hm⟩ := I2.frzK hd
  obtain ⟨e1, e2⟩ := dict_ep hod hdt
  subst e1
  have nSi : S ≠ it := fun e => by rw [e, hi] at hS2; cases hS2
  have nSd : S ≠ d := fun e => by rw [e, hd] at hS2; cases hS2
  have ndi : d ≠ it := fun e => by rw [e, hi] at hd; cases hd
  have hzk : kvs.length ≤ sizeLine := (dk_rd I2.hok (.inr ⟨od, hd⟩)).1
  have I3 := ItX.inv_drop I2 hi
  have fp := ItX.inv_fp I2 hi (Nat.le_trans I.sz hz)
  have hS3 : ItX.dropH H2 it S = some (.lst []) := (ItX.dropH_ne nSi).trans hS2
  have hd3 : ItX.dropH H2 it d = some (.frz od (.dK kvs)) := (ItX.dropH_ne ndi).trans hd
  generalize ItX.dropH H2 it = H3 at I3 fp hS3 hd3 hQ
  have go : ∀ (s' : Shared), L2.Inv X pins σ H3 s' → s'.heap.IsKeyIter it d 0 kvs.length ep → codeAny (model X.prog X.w) A (.builtin "list.extend.loop" ⟨[.ref S, .ref it, .none], []⟩) Rs s' := fun s' I' st' =>
    key_loop hh hod hzk nSi nSd _ 0 H3 s' rfl (Nat.zero_le _) I' fp hd3 hS3 st' fun s'' I'' => done _ s'' I'' hQ
  rw [hsz] at hk
  obtain ⟨zz, its, cc, r3, ln3, e3⟩ := I3.lstM hS3
  cases r3
  refine wpAny_ite_split (fun _ => ?_) (fun _ => wpAny_pure ⟨plainId_quiet PySem.F.plain_extend_loop _, go s2 I3 hk⟩)
  refine wpAny_bind (wpAny_rule (wpAny_bind ?_))
  show wpAny _ _ (updateSeq S (·.push .none) >>= fun _ => updateSeq S (·.pop)) _ _ _
  refine wpAny_bind (wpAny_updateSeq e3 rfl ?_)
  have J1 := I3.lset (f := (·.push Value.none)) (its' := [Value.none]) (ys := [V.non]) (t' := s2.toks) hS3 e3 (by simp) (.cons rfl .nil) (by rw [List.length_singleton, sizeLine_eq]; decide)
  obtain ⟨z4, its4, c4, r4, ln4, e4⟩ := J1.lstM upd_same
  obtain ⟨u4, rfl, ru4⟩ := r4.one
  refine wpAny_updateSeq e4 rfl (wpAny_pure ⟨plainId_quiet PySem.F.plain_extend_loop _, go _ ?_ ?_⟩) (by show 1 ≤ sizeLine; rw [sizeLine_eq]; decide) (by show 0 ≤ sizeLine + 1; exact Nat.zero_le _)
  · have J2 := J1.lset (f := (·.pop)) (its := [u4]) (its' := []) (ys := []) (t' := s2.toks) upd_same e4 (by rfl) .nil (Nat.zero_le _)
    rw [upd_upd, show upd H3 S (.lst []) = H3 from by
      funext b
      by_cases hb : b = S
      · rw [hb, upd_same, hS3]
      · rw [upd_ne hb]] at J2
    exact J2
  · exact hk.at fun o e => (Heap.get?_update_other _ _ nSi).trans ((Heap.get?_update_other _ _ nSi).trans e)
theorem call_listIt (F : ∀ base, FnOk X.prog X.w X.K X.mg base CX n f fd ps (sp base.objs.size)) (hb : L2.Binds X.K fd ps []) (hx : Passes CX X E) (hc : X.calm = true) (hr : Room (n + 2) X.A)
    (hs : PySem.W.findIn X.K (.ref C) "__iter__" = some (some (.ref f))) (hf : PySem.W.isFn X.K (.ref f) = true) (n1 : PySem.W.findIn X.K (.ref C) "__len__" = some none) (n2 : PySem.W.findIn X.K (.ref C) "__length_hint__" = some none) :
    CallR X (.type "list") (rListIt C sp E) := by
  intro pins s σ H xs us Q I rv ⟨a, dx, fs, ex, ha, hq⟩
  subst ex
  obtain rfl := Vals.ref1 rv
  refine callType_codes (Q₁ := fun ob s1 => ob = .ref s.heap.objs.size ∧ s1 = { s with heap := s.heap.push { cls := .type "list", data := .seq #[] } }) PySem.F.called_list (PySem.F.typeCall_list_1 _) PySem.F.entry_list_init
    (code_list_new _ ⟨rfl, rfl⟩) fun ob s1 h1 => ?_
  obtain ⟨z1, z2⟩ := h1
  subst z1
  subst z2
  have hS : (s.heap.push { cls := .type "list", data := .seq #[] }).get? s.heap.objs.size = some { cls := .type "list", data := .seq #[] } := Heap.get?_push_size _ rfl
  have fr : H s.heap.objs.size = none := I.hok.fresh (Nat.le_refl _)
  refine ⟨⟨_, hS, rfl⟩, PySem.F.args_list_init_2 _ _, ?_⟩
  have I1 : L2.Inv X pins σ (upd H s.heap.objs.size (.lst [])) { s with heap := s.heap.push { cls := .type "list", data := .seq #[] } } := I.lnew (its := []) (t' := s.toks) .nil (Nat.zero_le _)
  show wpAny _ _ (Builtin.List.listItems (.ref s.heap.objs.size) >>= fun old => Builtin.List.listUpdate (.ref s.heap.objs.size) (fun _ => #[]) >>= fun _ => letGo old.toList.reverse >>= fun _ => Builtin.List.listExtendWith (.ref s.heap.objs.size) (.ref a) .none) _ _ _
  refine wpAny_bind ?_
  unfold Builtin.List.listItems
  refine wpAny_bind (wpAny_seqItems hS rfl (wpAny_pure ?_))
  refine wpAny_bind ?_
  show wpAny _ _ (updateSeq s.heap.objs.size (fun _ => #[])) _ _ _
  refine wpAny_updateSeq hS rfl (wpAny_bind (wpAny_letGo ?_))
  have I2 := I1.lset (f := fun _ => #[]) (its := []) (its' := []) (ys := []) (t' := s.toks) upd_same hS rfl .nil (Nat.zero_le _)
  rw [upd_upd] at I2
  exact list_fill (A := X.A.in1) (Rs := wants (fun r s2 => r = .none ∧ EP X pins σ Q (.ref s.heap.objs.size) s2) X.xe) F hb hx (Room.in1 (Room.in1 hr)) rfl (I.ok.hd hc) hs hf n1 n2 I2 (by rw [upd_ne (ne_of_none ha fr)]; exact ha) upd_same (hq _ fr)
    (fun H' s' I' q => ⟨rfl, .ref _, H', I', rfl, q⟩) fun e s' he => he
end
end Own
set_option Elab.async false
set_option linter.all false
set_option maxRecDepth 100000
set_option maxHeartbeats 2000000
/-! list(o), o an instance whose own __iter__ returns iter(d), and whose own __len__ tells a number -/
namespace Own
open PySem PySem.Spec PyProof.Rows L2
section
variable {X : Cx} {CX : CXT} {C f g : Addr} {fd gd : FuncData} {ps qs : List Str} {n m : Nat} {sp : Nat → Sp} {sl : Sp} {E : XK}
theorem own_call1 (F : FnOk X.prog X.w X.K X.mg X.base CX0 m g gd qs sl) (hb : L2.Binds X.K gd qs []) {A : Around} (hr : Room m A) (hfr : A.frames = X.A.frames)
    {pins : List (Addr × Obj)} {s : Shared} {σ : L2.St} {H : Hp} {x : V} {u : Value} {R : V → Hp → Prop} (I : L2.Inv X pins σ H s) (rx : L2.RelV x u) (hsp : sl [x] H R E) :
    wpAny (model X.prog X.w) A (call (.ref g) [u]) (fun w s' => ∃ z H', L2.RelV z w ∧ L2.Inv X pins σ H' s' ∧ R z H') (fun _ _ => False) s := by
  have e0 : Env0 X.prog X.w X.K X.mg X.base A X.stack s H := by
    have e := I.env0
    exact ⟨by rw [hfr]; exact e.frames, e.mod, e.bs, e.bsz, e.funs, e.frf, e.hok, e.bare⟩
  have hl := F.len _ _ _ _ hsp
  have r2 : L2.Vals [x] [u] := .cons rx .nil
  refine wpAny_call (codeAny_mono (F.run A X.stack s H ⟨[u], []⟩ [u] [x] R E hr e0 (by
    have := hb s [u] I.kIn (by simpa using hl)
    simpa using this) r2 hsp) fun r s' hq => ?_)
  cases r with
  | error e => exact False.elim hq
  | ok fl =>
    cases fl with
    | ret w =>
      obtain ⟨z, H', I', rz, q⟩ := I.after hq
      exact ⟨z, H', rz, I', q⟩
    | next => exact False.elim hq
    | brk => exact False.elim hq
    | cont => exact False.elim hq
/-- what an own __len__ has to tell -/
def LenTold (H : Hp) : VK := fun v H' => ∃ k : Nat, v = .int k ∧ k ≤ sizeLine ∧ H' = H
theorem len_own (F : FnOk X.prog X.w X.K X.mg X.base CX0 m g gd qs sl) (hb : L2.Binds X.K gd qs []) {A : Around} (hr : Room (m + 1) A) (hfr : A.frames = X.A.frames)
    (hs : PySem.W.findIn X.K (.ref C) "__len__" = some (some (.ref g))) (hf : PySem.W.isFn X.K (.ref g) = true) {pins : List (Addr × Obj)} {s : Shared} {σ : L2.St} {H : Hp} {a dx : Addr} {fs : List (Str × V)} (I : L2.Inv X pins σ H s) (ha : H a = some (.ins C dx fs)) (hsp : sl [.ref a] H (LenTold H) E) :
    wpAny (model X.prog X.w) A (call (.builtin "len") [.ref a]) (fun r s' => ∃ (k : Nat) (t : Tok), k ≤ sizeLine ∧ r = .int k t ∧ L2.Inv X pins σ H s') (fun _ _ => False) s := by
  obtain ⟨mA, J, _⟩ := ins_get I.hok ha
  obtain ⟨od0, J, _⟩ := J.look
  refine Calls.call_function_entry kind_len plain_len entry_len (args_len1 _) ?_
  unfold Builtin.«len»
  refine wpAny_bind (m := oneArg "len" _) (wpAny_pure ?_)
  refine wpAny_bind (m := callSpecial? (.ref a) (PySem.Str.ofString "__len__")) ?_
  unfold callSpecial? specialOf
  refine wpAny_bind (wpAny_bind (J.type.here ((PySem.W.looks_findIn I.kIn hs).here ?_)))
  refine wpAny_holding (wpAny_bind ((PySem.W.bind_fn I.kIn _ (beq_iff_eq.mp hf)).here ?_))
  refine wpAny_bind (wpAny_mono (own_call1 (A := A.in1) F hb (Room.in1 hr) hfr I (x := .ref a) rfl hsp) (fun w s' h => ?_) fun _ _ h => h)
  obtain ⟨z, H', rz, I', k, ez, hk, eH⟩ := h
  subst ez
  subst eH
  obtain ⟨t, rfl⟩ := (show ∃ t, w = Value.int k t from rz)
  have hz : sizeLine = 16777216 := sizeLine_eq
  refine wpAny_pure (wpAny_bind (wpAny_holding (wpAny_pure ?_)))
  refine wpAny_bind (wpAny_letGo ?_)
  show wpAny _ _ (if ((k : Nat) : Int) < 0 then _ else _) _ _ _
  rw [if_neg (by omega)]
  show wpAny _ _ (if ((k : Nat) : Int) ≥ 2 ^ 63 then _ else _) _ _ _
  rw [if_neg (by omega)]
  exact wpAny_bind (wpAny_mkInt (wpAny_pure ⟨_, rfl, _, _, hk, rfl, I'.tok _⟩))
theorem hint_own (F : FnOk X.prog X.w X.K X.mg X.base CX0 m g gd qs sl) (hb : L2.Binds X.K gd qs []) {A : Around} (hr : Room (m + 1) A) (hfr : A.frames = X.A.frames)
    (hs : PySem.W.findIn X.K (.ref C) "__len__" = some (some (.ref g))) (hf : PySem.W.isFn X.K (.ref g) = true) {pins : List (Addr × Obj)} {s : Shared} {σ : L2.St} {H : Hp} {a dx : Addr} {fs : List (Str × V)} (I : L2.Inv X pins σ H s) (ha : H a = some (.ins C dx fs)) (hsp : sl [.ref a] H (LenTold H) E)
    {Q : Bool → Shared → Prop} {Eh : Value → Shared → Prop} (q : ∀ b s', L2.Inv X pins σ H s' → Q b s') : wpAny (model X.prog X.w) A (Builtin.List.listLengthHint (.ref a)) Q Eh s := by
  obtain ⟨mA, J, _⟩ := ins_get I.hok ha
  obtain ⟨od0, J, _⟩ := J.look
  have l1 := PySem.W.looks_findIn (M := model X.prog X.w) I.kIn hs
  unfold Builtin.List.listLengthHint
  refine wpAny_bind (wpAny_bind (J.type.here (l1.here ?_)))
  refine PySem.W.KFB.if_not (by rfl) ?_
  refine wpAny_bind (wpAny_rule (wpAny_bind (wpAny_attempt (wpAny_mono (len_own F hb hr hfr hs hf I ha hsp) (fun r s' h => ?_) fun e s' h => h.elim))))
  obtain ⟨k, t, hk, rfl, I'⟩ := h
  have hz : sizeLine = 16777216 := sizeLine_eq
  refine wpAny_bind (wpAny_pure ?_)
  refine PySem.W.KFB.if_not (by show decide _ = false; exact decide_eq_false (by rw [Int.toNat_natCast]; omega)) ?_
  exact wpAny_pure (q _ _ I')
def ListToldL (C a S : Addr) (sl : Sp) (E : XK) (Q : VK) (m : Nat) : VK := fun v H2 => ∃ it d od kvs, v = V.ref it ∧ H2 it = some (KiO d od it) ∧ H2 d = some (.frz od (.dK kvs)) ∧ H2 S = some (.lst []) ∧ m ≤ it ∧ (∃ dx fs, H2 a = some (.ins C dx fs)) ∧ sl [V.ref a] H2 (LenTold H2) E ∧ Q (.ref S) (upd (ItX.dropH H2 it) S (.lst (kvs.map fun p => kV p.1)))
def rListIL (C : Addr) (sp : Nat → Sp) (sl : Sp) (E : XK) : List V → Hp → VK → Prop := fun xs H Q => ∃ a dx fs, xs = [V.ref a] ∧ H a = some (.ins C dx fs) ∧ ∀ S, H S = none → ∀ m, sp m [.ref a] (upd H S (.lst [])) (ListToldL C a S sl E Q m) E
theorem list_fillL {pins : List (Addr × Obj)} {σ : L2.St} {A : Around} {Rs : Result → Shared → Prop} {S a dx : Addr} {fs : List (Str × V)} {H : Hp} {s : Shared} {Q : VK}
    (F : ∀ base, FnOk X.prog X.w X.K X.mg base CX n f fd ps (sp base.objs.size)) (hb : L2.Binds X.K fd ps []) (hx : Passes CX X E) (hr : Room n A.in1) (hrm : Room (m + 1) A.in1) (hfr : A.in1.frames = X.A.frames) (hh : A.handled = none)
    (hs : PySem.W.findIn X.K (.ref C) "__iter__" = some (some (.ref f))) (hf : PySem.W.isFn X.K (.ref f) = true) (G : FnOk X.prog X.w X.K X.mg X.base CX0 m g gd qs sl) (hgb : L2.Binds X.K gd qs []) (n1 : PySem.W.findIn X.K (.ref C) "__len__" = some (some (.ref g))) (n2 : PySem.W.isFn X.K (.ref g) = true)
    (I : L2.Inv X pins σ H s) (ha : H a = some (.ins C dx fs)) (hS : H S = some (.lst [])) (hsp : ∀ m, sp m [.ref a] H (ListToldL C a S sl E Q m) E)
    (done : ∀ H' s', L2.Inv X pins σ H' s' → Q (.ref S) H' → Rs (.ok (.ret .none)) s') (bad : ∀ e s', X.xe e s' → Rs (.error e) s') :
    wpAny (model X.prog X.w) A.in1 (Builtin.List.listExtendWith (.ref S) (.ref a) .none)
      (fun fin s' => match fin with | .done g => Rs (.ok g) s' | .again c' => c'.quiet = true ∧ codeAny (model X.prog X.w) A c' Rs s') (fun e s' => Rs (.error e) s') s := by
  have neS : S ≠ a := ne_of hS ha (fun z => nomatch z)
  obtain ⟨mA, J, _⟩ := ins_get I.hok ha
  obtain ⟨od0, J, _⟩ := J.look
  have t1 : Builtin.List.listSameRef (.ref S) (.ref a) = false := by simp [Builtin.List.listSameRef, neS]
  have t2 : (Value.ref C == Value.type "list" || Value.ref C == Value.type "tuple") = false := rfl
  unfold Builtin.List.listExtendWith
  refine wpAny_bind (J.type.here ?_)
  rw [t1, Bool.false_or]
  simp only [t2, Bool.false_eq_true, if_false]
  refine wpAny_bind (wpAny_mono (own_it F hb hx hr hfr hs hf (fun m v H2 ⟨it, d, od, kvs, e1, e2, _⟩ => ⟨it, d, od, e1, e2⟩) I ha hsp) (fun u s2 h2 => ?_) bad)
  obtain ⟨it0, H2, eu, I2, it, d, od, kvs, e0, hi, hd, hS2, hz, ⟨dx2, fs2, ha2⟩, hL, hQ⟩ := h2
  subst eu
  have e9 : it = it0 := by cases e0; rfl
  subst e9
  obtain ⟨mB, J2, _⟩ := ins_get I2.hok ha2
  obtain ⟨od2, J2, _⟩ := J2.look
  refine wpAny_bind (wpAny_holding (hint_own G hgb hrm hfr n1 n2 I2 ha2 hL fun b9 s2 I2 => ?_))
  obtain ⟨es, ep, hod, hk⟩ := (show ObjOk X.prog X.w H2 s2.heap it (KiO d od it) from I2.hok it _ hi).1
  obtain ⟨_, _, _, es2, ep2, vs, hdt, hsz, kv, hm⟩ := I2.frzK hd
  obtain ⟨e1, e2⟩ := dict_ep hod hdt
  subst e1
  have nSi : S ≠ it := fun e => by rw [e, hi] at hS2; cases hS2
  have nSd : S ≠ d := fun e => by rw [e, hd] at hS2; cases hS2
  have ndi : d ≠ it := fun e => by rw [e, hi] at hd; cases hd
  have hzk : kvs.length ≤ sizeLine := (dk_rd I2.hok (.inr ⟨od, hd⟩)).1
  have I3 := ItX.inv_drop I2 hi
  have fp := ItX.inv_fp I2 hi (Nat.le_trans I.sz hz)
  have hS3 : ItX.dropH H2 it S = some (.lst []) := (ItX.dropH_ne nSi).trans hS2
  have hd3 : ItX.dropH H2 it d = some (.frz od (.dK kvs)) := (ItX.dropH_ne ndi).trans hd
  generalize ItX.dropH H2 it = H3 at I3 fp hS3 hd3 hQ
  have go : ∀ (s' : Shared), L2.Inv X pins σ H3 s' → s'.heap.IsKeyIter it d 0 kvs.length ep → codeAny (model X.prog X.w) A (.builtin "list.extend.loop" ⟨[.ref S, .ref it, .none], []⟩) Rs s' := fun s' I' st' =>
    key_loop hh hod hzk nSi nSd _ 0 H3 s' rfl (Nat.zero_le _) I' fp hd3 hS3 st' fun s'' I'' => done _ s'' I'' hQ
  rw [hsz] at hk
  obtain ⟨zz, its, cc, r3, ln3, e3⟩ := I3.lstM hS3
  cases r3
  refine wpAny_ite_split (fun _ => ?_) (fun _ => wpAny_pure ⟨plainId_quiet PySem.F.plain_extend_loop _, go s2 I3 hk⟩)
  refine wpAny_bind (wpAny_rule (wpAny_bind ?_))
  show wpAny _ _ (updateSeq S (·.push .none) >>= fun _ => updateSeq S (·.pop)) _ _ _
  refine wpAny_bind (wpAny_updateSeq e3 rfl ?_)
  have J1 := I3.lset (f := (·.push Value.none)) (its' := [Value.none]) (ys := [V.non]) (t' := s2.toks) hS3 e3 (by simp) (.cons rfl .nil) (by rw [List.length_singleton, sizeLine_eq]; decide)
  obtain ⟨z4, its4, c4, r4, ln4, e4⟩ := J1.lstM upd_same
  obtain ⟨u4, rfl, ru4⟩ := r4.one
  refine wpAny_updateSeq e4 rfl (wpAny_pure ⟨plainId_quiet PySem.F.plain_extend_loop _, go _ ?_ ?_⟩) (by show 1 ≤ sizeLine; rw [sizeLine_eq]; decide) (by show 0 ≤ sizeLine + 1; exact Nat.zero_le _)
  · have J2 := J1.lset (f := (·.pop)) (its := [u4]) (its' := []) (ys := []) (t' := s2.toks) upd_same e4 (by rfl) .nil (Nat.zero_le _)
    rw [upd_upd, show upd H3 S (.lst []) = H3 from by
      funext b
      by_cases hb : b = S
      · rw [hb, upd_same, hS3]
      · rw [upd_ne hb]] at J2
    exact J2
  · exact hk.at fun o e => (Heap.get?_update_other _ _ nSi).trans ((Heap.get?_update_other _ _ nSi).trans e)
theorem call_listIL (F : ∀ base, FnOk X.prog X.w X.K X.mg base CX n f fd ps (sp base.objs.size)) (hb : L2.Binds X.K fd ps []) (hx : Passes CX X E) (hc : X.calm = true) (hr : Room (n + 2) X.A) (hrm : Room (m + 3) X.A)
    (hs : PySem.W.findIn X.K (.ref C) "__iter__" = some (some (.ref f))) (hf : PySem.W.isFn X.K (.ref f) = true) (G : FnOk X.prog X.w X.K X.mg X.base CX0 m g gd qs sl) (hgb : L2.Binds X.K gd qs []) (n1 : PySem.W.findIn X.K (.ref C) "__len__" = some (some (.ref g))) (n2 : PySem.W.isFn X.K (.ref g) = true) :
    CallR X (.type "list") (rListIL C sp sl E) := by
  intro pins s σ H xs us Q I rv ⟨a, dx, fs, ex, ha, hq⟩
  subst ex
  obtain rfl := Vals.ref1 rv
  refine callType_codes (Q₁ := fun ob s1 => ob = .ref s.heap.objs.size ∧ s1 = { s with heap := s.heap.push { cls := .type "list", data := .seq #[] } }) PySem.F.called_list (PySem.F.typeCall_list_1 _) PySem.F.entry_list_init
    (code_list_new _ ⟨rfl, rfl⟩) fun ob s1 h1 => ?_
  obtain ⟨z1, z2⟩ := h1
  subst z1
  subst z2
  have hS : (s.heap.push { cls := .type "list", data := .seq #[] }).get? s.heap.objs.size = some { cls := .type "list", data := .seq #[] } := Heap.get?_push_size _ rfl
  have fr : H s.heap.objs.size = none := I.hok.fresh (Nat.le_refl _)
  refine ⟨⟨_, hS, rfl⟩, PySem.F.args_list_init_2 _ _, ?_⟩
  have I1 : L2.Inv X pins σ (upd H s.heap.objs.size (.lst [])) { s with heap := s.heap.push { cls := .type "list", data := .seq #[] } } := I.lnew (its := []) (t' := s.toks) .nil (Nat.zero_le _)
  show wpAny _ _ (Builtin.List.listItems (.ref s.heap.objs.size) >>= fun old => Builtin.List.listUpdate (.ref s.heap.objs.size) (fun _ => #[]) >>= fun _ => letGo old.toList.reverse >>= fun _ => Builtin.List.listExtendWith (.ref s.heap.objs.size) (.ref a) .none) _ _ _
  refine wpAny_bind ?_
  unfold Builtin.List.listItems
  refine wpAny_bind (wpAny_seqItems hS rfl (wpAny_pure ?_))
  refine wpAny_bind ?_
  show wpAny _ _ (updateSeq s.heap.objs.size (fun _ => #[])) _ _ _
  refine wpAny_updateSeq hS rfl (wpAny_bind (wpAny_letGo ?_))
  have I2 := I1.lset (f := fun _ => #[]) (its := []) (its' := []) (ys := []) (t' := s.toks) upd_same hS rfl .nil (Nat.zero_le _)
  rw [upd_upd] at I2
  exact list_fillL (A := X.A.in1) (Rs := wants (fun r s2 => r = .none ∧ EP X pins σ Q (.ref s.heap.objs.size) s2) X.xe) F hb hx (Room.in1 (Room.in1 hr)) (Room.in1 (Room.in1 hrm)) rfl (I.ok.hd hc) hs hf G hgb n1 n2 I2 (by rw [upd_ne (ne_of_none ha fr)]; exact ha) upd_same (hq _ fr)
    (fun H' s' I' q => ⟨rfl, .ref _, H', I', rfl, q⟩) fun e s' he => he
/-- len of a dict, locked or not -/
theorem call_lenRd : CallR X (.builtin "len") (fun xs H Q => ∃ a kvs, xs = [V.ref a] ∧ Rd H a (.dK kvs) ∧ Q (.int kvs.length) H) := by
  rintro pins s σ H xs us Q I r ⟨a, kvs, rfl, ha, q⟩
  obtain ⟨u, rfl, ru⟩ := vals1 r
  cases ru
  exact d_len I ha fun t s' I' => ⟨.int kvs.length, H, I', ⟨t, rfl⟩, q⟩
/-- rules for what stands in a comprehension, K written -/
theorem ixTupOf {K : PySem.W.Frag} (h : X.K = K) : IxR X (rIxT K) := h ▸ ix_tup
theorem fldOf {K : PySem.W.Frag} (h : X.K = K) {e : Expr} {ta : TE} {f : Str} {pos : Pos} (he : PE X e ta) (hb : attributeBase e f X.env (eval e X.env) = eval e X.env) : PE X (.Attribute e f pos) (tFld K ta f) := h ▸ pe_fld he hb
theorem notInSeqOf {K : PySem.W.Frag} (h : X.K = K) : OpR X (compareOp .NotIn) (rIn K true) := h ▸ op_notIn_seq
end
end Own
set_option Elab.async false
set_option linter.all false
set_option maxRecDepth 100000
set_option maxHeartbeats 2000000
/-! a dict that has texts and tuples among its keys -/
namespace Own
open PySem PySem.Spec PyProof.Rows L2
abbrev MK := Str ⊕ List L2.Key
section
variable (P : Program) (w : World)
def mIs (h : Heap) : MK → Value → Prop
  | .inl x, v => ∃ t, v = .str x t
  | .inr ks, v => ∃ a, v = .ref a ∧ (tupleKind (mixKind P w)).is h ks a
def mHash : MK → Int
  | .inl x => (mixKind P w).hash (.inr x)
  | .inr ks => (tupleKind (mixKind P w)).hash ks
def mDraws : MK → Nat
  | .inl _ => 1
  | .inr ks => ks.length + 1
def mEnt (x : MK × Value × Value) : DictEntry := ⟨mHash P w x.1, x.2.1, x.2.2⟩
end
section
variable {P : Program} {w : World} {A : Around} {E : Value → Shared → Prop} {s : Shared} {h : Heap}
theorem mix_str {x : Str} {t : Tok} : (mixKind P w).is (.inr x) (.str x t) = true := kV_is (k := .inr x) (u := .str x t) ⟨t, rfl⟩
theorem mIs_inj {x y : MK} {v : Value} (a : mIs P w h x v) (b : mIs P w h y v) : x = y := by
  cases x with
  | inl x =>
    obtain ⟨t, rfl⟩ := a
    cases y with
    | inl y => obtain ⟨t2, e⟩ := b; injection e with e1 _; rw [e1]
    | inr ys => obtain ⟨a2, e, _⟩ := b; cases e
  | inr xs =>
    obtain ⟨a1, rfl, ha⟩ := a
    cases y with
    | inl y => obtain ⟨t2, e⟩ := b; cases e
    | inr ys =>
      obtain ⟨a2, e, hb⟩ := b
      cases e
      rw [(tupleKind (mixKind P w)).inj ha hb]
theorem mIs_keeps {h' : Heap} {k : MK} {v : Value} {d : Addr} {o : Obj} {es ep} (a : mIs P w h k v) (ho : h.get? d = some o) (hd : o.data = .dict es ep) (hs : Heap.SameBut d h h') : mIs P w h' k v := by
  cases k with
  | inl x => exact a
  | inr ks =>
    obtain ⟨b, rfl, hb⟩ := a
    exact ⟨b, rfl, (tupleKind (mixKind P w)).keeps hb ho hd hs⟩
theorem m_hash {k : MK} {v : Value} {Q : Int → Shared → Prop} (hu : A.units < cLine) (hk : mIs P w s.heap k v) (q : Q (mHash P w k) { s with toks := s.toks + mDraws k }) : wpAny (model P w) A (pyHash v) Q E s := by
  cases k with
  | inl x =>
    obtain ⟨t, rfl⟩ := hk
    exact (mixKind P w).pyHash mix_str q
  | inr ks =>
    obtain ⟨b, rfl, hb⟩ := hk
    exact (tupleKind (mixKind P w)).pyHash hu hb q
theorem tup_at {ks : List L2.Key} {a : Addr} (hk : (tupleKind (mixKind P w)).is s.heap ks a) : ∃ items, s.heap.IsTuple a items := by
  obtain ⟨o, items, n, h1, h2, h3, _⟩ := (show IsTupleKey (mixKind P w) s.heap ks a from hk)
  exact ⟨items, o, h1, h2, n, h3⟩
theorem m_eq {x y : MK} {u v : Value} {Q : Bool → Shared → Prop} (hu : A.units < cLine) (hx : mIs P w s.heap x u) (hy : mIs P w s.heap y v) (q : Q (decide (x = y)) s) : wpAny (model P w) A (eqBool u v) Q E s := by
  cases x with
  | inl x =>
    obtain ⟨t, rfl⟩ := hx
    cases y with
    | inl y =>
      obtain ⟨t2, rfl⟩ := hy
      refine (mixKind P w).eqBool (a := .inr x) (b := .inr y) mix_str mix_str ?_
      have e : decide ((Sum.inr x : L2.Key) = .inr y) = decide ((Sum.inl x : MK) = .inl y) := by
        by_cases e : x = y
        · subst e; rw [decide_eq_true rfl, decide_eq_true rfl]
        · rw [decide_eq_false (fun z => e (Sum.inr.inj z)), decide_eq_false (fun z => e (Sum.inl.inj z))]
      rw [e]; exact q
    | inr ys =>
      obtain ⟨b, rfl, hb⟩ := hy
      obtain ⟨its, hi⟩ := tup_at hb
      exact SeqAt.EqAt.str_tuple x t hi hu P w E Q (by rw [decide_eq_false (fun z => nomatch z)] at q; exact q)
  | inr xs =>
    obtain ⟨a, rfl, ha⟩ := hx
    cases y with
    | inl y =>
      obtain ⟨t2, rfl⟩ := hy
      obtain ⟨its, hi⟩ := tup_at ha
      exact SeqAt.EqAt.tuple_str y t2 hi hu P w E Q (by rw [decide_eq_false (fun z => nomatch z)] at q; exact q)
    | inr ys =>
      obtain ⟨b, rfl, hb⟩ := hy
      refine (tupleKind (mixKind P w)).eqBool hu ha hb ?_
      have e : decide (xs = ys) = decide ((Sum.inr xs : MK) = .inr ys) := by
        by_cases e : xs = ys
        · subst e; rw [decide_eq_true rfl, decide_eq_true rfl]
        · rw [decide_eq_false e, decide_eq_false (fun z => e (Sum.inr.inj z))]
      rw [e]; exact q
theorem m_quiet {k : MK} {v : Value} {Q : Bool → Shared → Prop} (hk : mIs P w s.heap k v) (q : Q true s) : wpAny (model P w) A (eqIsQuiet 8 v) Q E s := by
  cases k with
  | inl x =>
    obtain ⟨t, rfl⟩ := hk
    exact wpAny_pure q
  | inr ks =>
    obtain ⟨b, rfl, hb⟩ := hk
    exact (tupleKind (mixKind P w)).quiet hb q
theorem m_tell {k : MK} {key : Value} {stored : List Value} {Q : Bool → Shared → Prop} (hkey : mIs P w s.heap k key) (hst : ∀ v ∈ stored, ∃ k', mIs P w s.heap k' v) (q : Q false s) : wpAny (model P w) A (tableMayTell key stored) Q E s := by
  unfold tableMayTell
  split
  · exact wpAny_pure q
  · refine wpAny_bind (m_quiet hkey ?_)
    simp only [Bool.not_true, Bool.false_eq_true, if_false]
    refine wpAny_bind ?_
    refine wpAny_forIn_list _ (fun rest r s' => s' = s ∧ r = (none, ()) ∧ ∀ v ∈ rest, ∃ k', mIs P w s.heap k' v) _ ?_ ?_ _ _ ⟨rfl, rfl, hst⟩
    · rintro x rest r s' ⟨rfl, rfl, hr⟩
      obtain ⟨k', hb⟩ := hr x List.mem_cons_self
      refine wpAny_bind (m_quiet hb ?_)
      simp only [Bool.not_true, Bool.false_eq_true, if_false]
      exact wpAny_pure ⟨rfl, rfl, fun v hv => hr v (List.mem_cons_of_mem _ hv)⟩
    · rintro r s' ⟨rfl, rfl, _⟩
      exact wpAny_pure q
/-! ### the entries -/
theorem ent_at {es : Array DictEntry} {xs : List (MK × Value × Value)} (he : es.toList = xs.map (mEnt P w)) (j : Nat) : es[j]? = (xs[j]?).map (mEnt P w) := by
  rw [← Array.getElem?_toList, he, List.getElem?_map]
theorem ent_size {es : Array DictEntry} {xs : List (MK × Value × Value)} (he : es.toList = xs.map (mEnt P w)) : es.size = xs.length := by
  rw [← Array.length_toList, he, List.length_map]
theorem ent_uniq {xs : List (MK × Value × Value)} (hn : (xs.map (·.1)).Nodup) {i j : Nat} {k : MK} {p q : Value × Value} (hi : xs[i]? = some (k, p)) (hj : xs[j]? = some (k, q)) : i = j := by
  have e1 : (xs.map (·.1))[i]? = some k := by rw [List.getElem?_map, hi]; rfl
  have e2 : (xs.map (·.1))[j]? = some k := by rw [List.getElem?_map, hj]; rfl
  obtain ⟨h1, z1⟩ := List.getElem?_eq_some_iff.mp e1
  obtain ⟨h2, z2⟩ := List.getElem?_eq_some_iff.mp e2
  exact (List.getElem_inj hn).mp (z1.trans z2.symm)
theorem ent_mem {es : Array DictEntry} {xs : List (MK × Value × Value)} (he : es.toList = xs.map (mEnt P w)) {e : DictEntry} (m : e ∈ es) : ∃ x ∈ xs, mEnt P w x = e := by
  have : e ∈ xs.map (mEnt P w) := he ▸ Array.mem_toList_iff.mpr m
  exact List.mem_map.mp this
/-- all texts: the library's own way -/
theorem find_strs {d : Addr} {o : Obj} {es ep} {xs : List (MK × Value × Value)} {x : Str} {t : Tok} {Q : Option Nat → Shared → Prop} (ho : s.heap.get? d = some o) (hd : o.data = .dict es ep) (he : es.toList = xs.map (mEnt P w)) (his : ∀ y ∈ xs, mIs P w s.heap y.1 y.2.1) (hs : ∀ y ∈ xs, ∃ z, y.1 = .inl z)
    (hnone : (∀ (j : Nat) (p : Value × Value), xs[j]? ≠ some (.inl x, p)) → Q none s) (hsome : ∀ (j : Nat) (p : Value × Value), xs[j]? = some (.inl x, p) → Q (some j) s) :
    wpAny (model P w) A (dictFind d (.str x t) (mHash P w (.inl x))) Q E s := by
  refine wpAny_dictFind_of (knd := mixKind P w) (k := .inr x) mix_str ho hd (fun e m => ?_) ?_
  · obtain ⟨y, hy, rfl⟩ := ent_mem he m
    obtain ⟨z, ez⟩ := hs y hy
    obtain ⟨k, v, u⟩ := y
    cases ez
    obtain ⟨t2, e2⟩ := his _ hy
    exact ⟨.inr z, by show (mixKind P w).is (.inr z) v = true; rw [show v = .str z t2 from e2]; exact mix_str, rfl⟩
  · have at_ : ∀ (j : Nat) (hj : j < es.size), ((mixKind P w).is (.inr x) es[j].key = true ↔ ∃ p, xs[j]? = some (.inl x, p)) := fun j hj => by
      have e1 := ent_at he j
      have hj2 : j < xs.length := by rw [← ent_size he]; exact hj
      rw [Array.getElem?_eq_getElem hj, List.getElem?_eq_getElem hj2] at e1
      have e2 : es[j] = mEnt P w xs[j] := Option.some.inj e1
      obtain ⟨z, ez⟩ := hs _ (List.getElem_mem hj2)
      obtain ⟨t2, e3⟩ := (show mIs P w s.heap (.inl z) xs[j].2.1 from ez ▸ his _ (List.getElem_mem hj2))
      rw [e2, List.getElem?_eq_getElem hj2]
      constructor
      · intro q
        have q2 : (mixKind P w).is (.inr x) (.str z t2) = true := by rw [← e3]; exact q
        have := (mixKind P w).inj _ _ _ q2 (mix_str (x := z) (t := t2))
        cases this
        exact ⟨xs[j].2, by rw [← ez]⟩
      · rintro ⟨p, q⟩
        have q3 : xs[j] = (.inl x, p) := Option.some.inj q
        have : z = x := by rw [q3] at ez; cases ez; rfl
        subst this
        show (mixKind P w).is (.inr z) xs[j].2.1 = true
        rw [e3]; exact mix_str
    cases hf : es.findIdx? (fun e => (mixKind P w).is (.inr x) e.key) with
    | none =>
      refine hnone fun j p hj => ?_
      have hj1 : j < es.size := by rw [ent_size he]; exact (List.getElem?_eq_some_iff.mp hj).1
      have := Array.findIdx?_eq_none_iff.mp hf es[j] (Array.getElem_mem hj1)
      rw [(at_ j hj1).mpr ⟨p, hj⟩] at this
      cases this
    | some i =>
      obtain ⟨hlt, hi, _⟩ := Array.findIdx?_eq_some_iff_getElem.mp hf
      obtain ⟨p, hp⟩ := (at_ i hlt).mp hi
      exact hsome i p hp
/-- where a lookup stands -/
def Hit (xs : List (MK × Value × Value)) (k : MK) (i : Nat) (hit : Option Nat) : Prop := (hit = none ∧ ∀ j p, j < i → xs[j]? ≠ some (k, p)) ∨ ∃ j p, hit = some j ∧ j < i ∧ xs[j]? = some (k, p)
theorem Hit.fresh {xs : List (MK × Value × Value)} {k : MK} {i : Nat} {hit : Option Nat} {p : Value × Value} (h : Hit xs k i hit) (hn : (xs.map (·.1)).Nodup) (hi : xs[i]? = some (k, p)) : hit = none := by
  rcases h with ⟨e, _⟩ | ⟨j, q, _, hj, e⟩
  · exact e
  · have := ent_uniq hn e hi
    omega
theorem Hit.pass {xs : List (MK × Value × Value)} {k k' : MK} {i : Nat} {hit : Option Nat} {p : Value × Value} (h : Hit xs k i hit) (hi : xs[i]? = some (k', p)) (ne : ¬ k' = k) : Hit xs k (i + 1) hit := by
  rcases h with ⟨e, hno⟩ | ⟨j, q, e, hj, e2⟩
  · refine .inl ⟨e, fun j q hj e2 => ?_⟩
    rcases Nat.lt_or_ge j i with lt | ge
    · exact hno j q lt e2
    · have : j = i := by omega
      subst this
      rw [hi] at e2
      exact ne (congrArg Prod.fst (Option.some.inj e2))
  · exact .inr ⟨j, q, e, by omega, e2⟩
theorem walk_step {es : Array DictEntry} {xs : List (MK × Value × Value)} {k : MK} {y : Nat} {rest : List Nat} {i : Nat} {hit : Option Nat} (he : es.toList = xs.map (mEnt P w)) (haskey : ∀ (j : Nat) (p : Value × Value), xs[j]? = some (k, p) → ((es[j]?.map (·.hash)) == some (mHash P w k)) = true)
    (hr : y :: rest = (List.range' i (es.size - i)).filter (fun i => (es[i]?.map (·.hash)) == some (mHash P w k))) (hi : i ≤ es.size) (hH : Hit xs k i hit) :
    y < es.size ∧ rest = (List.range' (y + 1) (es.size - (y + 1))).filter (fun i => (es[i]?.map (·.hash)) == some (mHash P w k)) ∧ ∃ (k' : MK) (v u : Value), xs[y]? = some (k', v, u) ∧ es[y]? = some ⟨mHash P w k', v, u⟩ ∧ Hit xs k y hit := by
  obtain ⟨hix, hxn, hpx, hskip, hrest⟩ := filter_range'_cons _ _ _ _ _ hr.symm
  have hlt : y < es.size := by omega
  have hlx : y < xs.length := by rw [← ent_size he]; exact hlt
  refine ⟨hlt, by rw [hrest]; congr 2; omega, xs[y].1, xs[y].2.1, xs[y].2.2, List.getElem?_eq_getElem hlx, ?_, ?_⟩
  · rw [ent_at he y, List.getElem?_eq_getElem hlx]; rfl
  · rcases hH with ⟨e, hno⟩ | ⟨j, q, e, hj, e2⟩
    · refine .inl ⟨e, fun j q hj e2 => ?_⟩
      rcases Nat.lt_or_ge j i with lt | ge
      · exact hno j q lt e2
      · have := hskip j ge hj
        rw [haskey j q e2] at this
        cases this
    · exact .inr ⟨j, q, e, by omega, e2⟩
theorem walk_end {es : Array DictEntry} {xs : List (MK × Value × Value)} {k : MK} {i : Nat} {hit : Option Nat} (he : es.toList = xs.map (mEnt P w)) (haskey : ∀ (j : Nat) (p : Value × Value), xs[j]? = some (k, p) → ((es[j]?.map (·.hash)) == some (mHash P w k)) = true)
    (hr : [] = (List.range' i (es.size - i)).filter (fun i => (es[i]?.map (·.hash)) == some (mHash P w k))) (hi : i ≤ es.size) (hH : Hit xs k i hit) :
    (hit = none ∧ ∀ (j : Nat) (p : Value × Value), xs[j]? ≠ some (k, p)) ∨ ∃ j p, hit = some j ∧ xs[j]? = some (k, p) := by
  rcases hH with ⟨e, hno⟩ | ⟨j, q, e, _, e2⟩
  · refine .inl ⟨e, fun j p hj => ?_⟩
    rcases Nat.lt_or_ge j i with lt | ge
    · exact hno j p lt hj
    · have hj1 : j < es.size := by rw [ent_size he]; exact (List.getElem?_eq_some_iff.mp hj).1
      have := List.filter_eq_nil_iff.mp hr.symm j (List.mem_range'_1.mpr ⟨ge, by omega⟩)
      rw [haskey j p hj] at this
      exact this rfl
  · exact .inr ⟨j, q, e, e2⟩
theorem m_find {d : Addr} {o : Obj} {es ep} {xs : List (MK × Value × Value)} {k : MK} {key : Value} {Q : Option Nat → Shared → Prop} (hu : A.units < cLine) (hkey : mIs P w s.heap k key) (ho : s.heap.get? d = some o) (hd : o.data = .dict es ep) (he : es.toList = xs.map (mEnt P w)) (his : ∀ y ∈ xs, mIs P w s.heap y.1 y.2.1) (hn : (xs.map (·.1)).Nodup)
    (hnone : (∀ (j : Nat) (p : Value × Value), xs[j]? ≠ some (k, p)) → Q none s) (hsome : ∀ (j : Nat) (p : Value × Value), xs[j]? = some (k, p) → Q (some j) s) :
    wpAny (model P w) A (dictFind d key (mHash P w k)) Q E s := by
  have hsz : es.size = xs.length := ent_size he
  have haskey : ∀ (j : Nat) (p : Value × Value), xs[j]? = some (k, p) → ((es[j]?.map (·.hash)) == some (mHash P w k)) = true := by
    intro j p hj
    rw [ent_at he j, hj]
    simp [mEnt]
  have hst : ∀ v ∈ (placesWithHash es.size (fun i => es[i]?.map (·.hash)) (mHash P w k)).filterMap (fun i => es[i]?.map (·.key)), ∃ k', mIs P w s.heap k' v := by
    intro v hv
    obtain ⟨i, _, hi⟩ := List.mem_filterMap.mp hv
    cases hei : es[i]? with
    | none => rw [hei] at hi; cases hi
    | some e =>
      rw [hei] at hi
      obtain rfl : e.key = v := by simpa using hi
      obtain ⟨x, hx, rfl⟩ := ent_mem he (Array.mem_of_getElem? hei)
      exact ⟨x.1, his x hx⟩
  cases k with
  | inl x =>
    obtain ⟨t, rfl⟩ := id hkey
    by_cases hall : ∀ y ∈ xs, ∃ z, y.1 = .inl z
    · exact find_strs ho hd he his hall hnone hsome
    · have hns : ¬ (es.all fun e => isExactStrKey e.key) = true := fun z => hall fun y hy => by
        have m : mEnt P w y ∈ es := Array.mem_toList_iff.mp (he ▸ List.mem_map.mpr ⟨y, hy, rfl⟩)
        have q := Array.all_eq_true_iff_forall_mem.mp z _ m
        obtain ⟨k, v, u⟩ := y
        cases k with
        | inl z => exact ⟨z, rfl⟩
        | inr ks =>
          obtain ⟨a, e, _⟩ := (show mIs P w s.heap (.inr ks) v from his _ hy)
          subst e
          cases q
      unfold dictFind
      try with_reducible refine wpAny_holding ?_
      refine wpAny_bind (wpAny_dictEntries ho hd ?_)
      dsimp only
      rw [if_neg hns]
      by_cases hv : ((Value.str x t :: (placesWithHash es.size (fun i => es[i]?.map (·.hash)) (mHash P w (.inl x))).filterMap (fun i => es[i]?.map (·.key))).all carriedByValue) = true
      · rw [if_pos hv]
        refine wpAny_bind ?_
        refine wpAny_forIn_list _
          (fun rest b s' => s' = s ∧ b = (none, ()) ∧ ∃ i, rest = (List.range' i (es.size - i)).filter (fun i => (es[i]?.map (·.hash)) == some (mHash P w (.inl x))) ∧ i ≤ es.size ∧ Hit xs (.inl x) i none) _ ?_ ?_ _ _
          ⟨rfl, rfl, 0, by rw [placesWithHash, List.range_eq_range', Nat.sub_zero], Nat.zero_le _, .inl ⟨rfl, fun _ _ z => absurd z (Nat.not_lt_zero _)⟩⟩
        · rintro y rest b s' ⟨rfl, rfl, i, hr, hi, hH⟩
          obtain ⟨hlt, hr2, k', v', u', hkv, hex, hHy⟩ := walk_step he haskey hr hi hH
          have hib : mIs P w s'.heap k' v' := his _ (List.mem_of_getElem? hkv)
          rw [hex]
          dsimp only
          by_cases hh : (mHash P w k' == mHash P w (.inl x)) = true
          · rw [if_pos hh]
            refine wpAny_bind (wpAny_dictEpoch ho hd (wpAny_bind (m_eq (x := k') (y := .inl x) hu hib hkey (wpAny_bind (wpAny_dictEpoch ho hd ?_)))))
            show wpAny _ _ (if (ep != ep) = true then _ else _) _ E _
            rw [if_neg (by simp)]
            by_cases hkk : k' = .inl x
            · rw [decide_eq_true hkk]
              subst hkk
              exact wpAny_bind (wpAny_rule (wpAny_pure (wpAny_pure (hsome y _ hkv))))
            · rw [decide_eq_false hkk]
              exact wpAny_bind (wpAny_rule (wpAny_pure ⟨rfl, rfl, y + 1, hr2, hlt, hHy.pass hkv hkk⟩))
          · rw [if_neg hh]
            refine wpAny_pure ⟨rfl, rfl, y + 1, hr2, hlt, hHy.pass hkv ?_⟩
            intro hkk
            rw [hkk] at hh; simp at hh
        · rintro b s' ⟨rfl, rfl, i, hr, hi, hH⟩
          rcases walk_end he haskey hr hi hH with ⟨_, hno⟩ | ⟨j, p, e, hj⟩
          · exact wpAny_pure (hnone hno)
          · cases e
      · rw [if_neg hv]
        by_cases hone : (((placesWithHash es.size (fun i => es[i]?.map (·.hash)) (mHash P w (.inl x))).filterMap (fun i => es[i]?.map (·.key))) == [Value.str x t]) = true
        · rw [if_pos hone]
          refine wpAny_bind (wpAny_pure ?_)
          rw [if_neg (by simp)]
          refine wpAny_bind ?_
          refine wpAny_forIn_list _
            (fun rest b s' => s' = s ∧ ∃ i hit, b = (none, hit) ∧ rest = (List.range' i (es.size - i)).filter (fun i => (es[i]?.map (·.hash)) == some (mHash P w (.inl x))) ∧ i ≤ es.size ∧ Hit xs (.inl x) i hit) _ ?_ ?_ _ _
            ⟨rfl, 0, none, rfl, by rw [placesWithHash, List.range_eq_range', Nat.sub_zero], Nat.zero_le _, .inl ⟨rfl, fun _ _ z => absurd z (Nat.not_lt_zero _)⟩⟩
          · rintro y rest b s' ⟨rfl, i, hit, rfl, hr, hi, hH⟩
            obtain ⟨hlt, hr2, k', v', u', hkv, hex, hHy⟩ := walk_step he haskey hr hi hH
            have hib : mIs P w s'.heap k' v' := his _ (List.mem_of_getElem? hkv)
            rw [hex]
            dsimp only
            by_cases hh : (mHash P w k' == mHash P w (.inl x)) = true
            · rw [if_pos hh]
              refine wpAny_bind (wpAny_dictEpoch ho hd (wpAny_bind (m_eq (x := k') (y := .inl x) hu hib hkey (wpAny_bind (wpAny_dictEpoch ho hd ?_)))))
              show wpAny _ _ (if (ep != ep) = true then _ else _) _ E _
              rw [if_neg (by simp)]
              by_cases hkk : k' = .inl x
              · rw [decide_eq_true hkk]
                subst hkk
                have hno := hHy.fresh hn hkv
                subst hno
                first | rw [if_pos rfl] | skip
                simp only [Option.isSome_none, Bool.false_eq_true, if_false]
                first | refine wpAny_bind (wpAny_pure ?_) | skip
                refine wpAny_bind (wpAny_rule ?_)
                split
                · exact wpAny_pure (wpAny_pure (hsome y _ hkv))
                · exact wpAny_pure ⟨rfl, y + 1, some y, rfl, hr2, hlt, .inr ⟨y, _, rfl, Nat.lt_succ_self y, hkv⟩⟩
              · rw [decide_eq_false hkk]
                simp only [Bool.false_eq_true, if_false]
                refine wpAny_bind (wpAny_rule ?_)
                first | rw [if_neg (by simp)] | skip
                first
                  | exact wpAny_pure ⟨rfl, y + 1, hit, rfl, hr2, hlt, hHy.pass hkv hkk⟩
                  | exact wpAny_bind (wpAny_pure (wpAny_pure ⟨rfl, y + 1, hit, rfl, hr2, hlt, hHy.pass hkv hkk⟩))
            · rw [if_neg hh]
              refine wpAny_pure ⟨rfl, y + 1, hit, rfl, hr2, hlt, hHy.pass hkv ?_⟩
              intro hkk
              rw [hkk] at hh; simp at hh
          · rintro b s' ⟨rfl, i, hit, rfl, hr, hi, hH⟩
            rcases walk_end he haskey hr hi hH with ⟨rfl, hno⟩ | ⟨j, p, rfl, hj⟩
            · exact wpAny_pure (hnone hno)
            · exact wpAny_pure (hsome j p hj)
        · rw [if_neg hone]
          refine wpAny_bind (m_tell hkey hst ?_)
          rw [if_neg (by simp)]
          refine wpAny_bind ?_
          refine wpAny_forIn_list _
            (fun rest b s' => s' = s ∧ ∃ i hit, b = (none, hit) ∧ rest = (List.range' i (es.size - i)).filter (fun i => (es[i]?.map (·.hash)) == some (mHash P w (.inl x))) ∧ i ≤ es.size ∧ Hit xs (.inl x) i hit) _ ?_ ?_ _ _
            ⟨rfl, 0, none, rfl, by rw [placesWithHash, List.range_eq_range', Nat.sub_zero], Nat.zero_le _, .inl ⟨rfl, fun _ _ z => absurd z (Nat.not_lt_zero _)⟩⟩
          · rintro y rest b s' ⟨rfl, i, hit, rfl, hr, hi, hH⟩
            obtain ⟨hlt, hr2, k', v', u', hkv, hex, hHy⟩ := walk_step he haskey hr hi hH
            have hib : mIs P w s'.heap k' v' := his _ (List.mem_of_getElem? hkv)
            rw [hex]
            dsimp only
            by_cases hh : (mHash P w k' == mHash P w (.inl x)) = true
            · rw [if_pos hh]
              refine wpAny_bind (wpAny_dictEpoch ho hd (wpAny_bind (m_eq (x := k') (y := .inl x) hu hib hkey (wpAny_bind (wpAny_dictEpoch ho hd ?_)))))
              show wpAny _ _ (if (ep != ep) = true then _ else _) _ E _
              rw [if_neg (by simp)]
              by_cases hkk : k' = .inl x
              · rw [decide_eq_true hkk]
                subst hkk
                have hno := hHy.fresh hn hkv
                subst hno
                first | rw [if_pos rfl] | skip
                simp only [Option.isSome_none, Bool.false_eq_true, if_false]
                first | refine wpAny_bind (wpAny_pure ?_) | skip
                refine wpAny_bind (wpAny_rule ?_)
                split
                · exact wpAny_pure (wpAny_pure (hsome y _ hkv))
                · exact wpAny_pure ⟨rfl, y + 1, some y, rfl, hr2, hlt, .inr ⟨y, _, rfl, Nat.lt_succ_self y, hkv⟩⟩
              · rw [decide_eq_false hkk]
                simp only [Bool.false_eq_true, if_false]
                refine wpAny_bind (wpAny_rule ?_)
                first | rw [if_neg (by simp)] | skip
                first
                  | exact wpAny_pure ⟨rfl, y + 1, hit, rfl, hr2, hlt, hHy.pass hkv hkk⟩
                  | exact wpAny_bind (wpAny_pure (wpAny_pure ⟨rfl, y + 1, hit, rfl, hr2, hlt, hHy.pass hkv hkk⟩))
            · rw [if_neg hh]
              refine wpAny_pure ⟨rfl, y + 1, hit, rfl, hr2, hlt, hHy.pass hkv ?_⟩
              intro hkk
              rw [hkk] at hh; simp at hh
          · rintro b s' ⟨rfl, i, hit, rfl, hr, hi, hH⟩
            rcases walk_end he haskey hr hi hH with ⟨rfl, hno⟩ | ⟨j, p, rfl, hj⟩
            · exact wpAny_pure (hnone hno)
            · exact wpAny_pure (hsome j p hj)
  | inr ks =>
    obtain ⟨a, rfl, hka⟩ := id hkey
    have hany : ¬ (es.any fun e => e.key == Value.ref a && e.hash != mHash P w (.inr ks)) = true := by
      intro z
      rw [← Array.any_toList, List.any_eq_true] at z
      obtain ⟨e, hin, hc⟩ := z
      obtain ⟨y, hy, rfl⟩ := ent_mem he (Array.mem_toList_iff.mp hin)
      simp only [mEnt, Bool.and_eq_true, beq_iff_eq, bne_iff_ne, ne_eq] at hc
      have q := his y hy
      rw [hc.1] at q
      exact hc.2 (by rw [mIs_inj q hkey])
    unfold dictFind
    try with_reducible refine wpAny_holding ?_
    refine wpAny_bind (wpAny_dictEntries ho hd ?_)
    dsimp only
    rw [if_neg (show ¬ ((Value.ref a :: (placesWithHash es.size (fun i => es[i]?.map (·.hash)) (mHash P w (.inr ks))).filterMap (fun i => es[i]?.map (·.key))).all carriedByValue) = true by simp [carriedByValue])]
    rw [if_neg hany]
    by_cases hone : (((placesWithHash es.size (fun i => es[i]?.map (·.hash)) (mHash P w (.inr ks))).filterMap (fun i => es[i]?.map (·.key))) == [Value.ref a]) = true
    · rw [if_pos hone]
      refine wpAny_bind (wpAny_pure ?_)
      rw [if_neg (by simp)]
      refine wpAny_bind ?_
      refine wpAny_forIn_list _
        (fun rest b s' => s' = s ∧ ∃ i hit, b = (none, hit) ∧ rest = (List.range' i (es.size - i)).filter (fun i => (es[i]?.map (·.hash)) == some (mHash P w (.inr ks))) ∧ i ≤ es.size ∧ Hit xs (.inr ks) i hit) _ ?_ ?_ _ _
        ⟨rfl, 0, none, rfl, by rw [placesWithHash, List.range_eq_range', Nat.sub_zero], Nat.zero_le _, .inl ⟨rfl, fun _ _ z => absurd z (Nat.not_lt_zero _)⟩⟩
      · rintro y rest b s' ⟨rfl, i, hit, rfl, hr, hi, hH⟩
        obtain ⟨hlt, hr2, k', v', u', hkv, hex, hHy⟩ := walk_step he haskey hr hi hH
        have hib : mIs P w s'.heap k' v' := his _ (List.mem_of_getElem? hkv)
        rw [hex]
        dsimp only
        by_cases hh : (mHash P w k' == mHash P w (.inr ks)) = true
        · rw [if_pos hh]
          refine wpAny_bind (wpAny_dictEpoch ho hd (wpAny_bind (m_eq (x := k') (y := .inr ks) hu hib hkey (wpAny_bind (wpAny_dictEpoch ho hd ?_)))))
          show wpAny _ _ (if (ep != ep) = true then _ else _) _ E _
          rw [if_neg (by simp)]
          by_cases hkk : k' = .inr ks
          · rw [decide_eq_true hkk]
            subst hkk
            have hno := hHy.fresh hn hkv
            subst hno
            first | rw [if_pos rfl] | skip
            simp only [Option.isSome_none, Bool.false_eq_true, if_false]
            first | refine wpAny_bind (wpAny_pure ?_) | skip
            refine wpAny_bind (wpAny_rule ?_)
            split
            · exact wpAny_pure (wpAny_pure (hsome y _ hkv))
            · exact wpAny_pure ⟨rfl, y + 1, some y, rfl, hr2, hlt, .inr ⟨y, _, rfl, Nat.lt_succ_self y, hkv⟩⟩
          · rw [decide_eq_false hkk]
            simp only [Bool.false_eq_true, if_false]
            refine wpAny_bind (wpAny_rule ?_)
            first | rw [if_neg (by simp)] | skip
            first
              | exact wpAny_pure ⟨rfl, y + 1, hit, rfl, hr2, hlt, hHy.pass hkv hkk⟩
              | exact wpAny_bind (wpAny_pure (wpAny_pure ⟨rfl, y + 1, hit, rfl, hr2, hlt, hHy.pass hkv hkk⟩))
        · rw [if_neg hh]
          refine wpAny_pure ⟨rfl, y + 1, hit, rfl, hr2, hlt, hHy.pass hkv ?_⟩
          intro hkk
          rw [hkk] at hh; simp at hh
      · rintro b s' ⟨rfl, i, hit, rfl, hr, hi, hH⟩
        rcases walk_end he haskey hr hi hH with ⟨rfl, hno⟩ | ⟨j, p, rfl, hj⟩
        · exact wpAny_pure (hnone hno)
        · exact wpAny_pure (hsome j p hj)
    · rw [if_neg hone]
      refine wpAny_bind (m_tell hkey hst ?_)
      rw [if_neg (by simp)]
      refine wpAny_bind ?_
      refine wpAny_forIn_list _
        (fun rest b s' => s' = s ∧ ∃ i hit, b = (none, hit) ∧ rest = (List.range' i (es.size - i)).filter (fun i => (es[i]?.map (·.hash)) == some (mHash P w (.inr ks))) ∧ i ≤ es.size ∧ Hit xs (.inr ks) i hit) _ ?_ ?_ _ _
        ⟨rfl, 0, none, rfl, by rw [placesWithHash, List.range_eq_range', Nat.sub_zero], Nat.zero_le _, .inl ⟨rfl, fun _ _ z => absurd z (Nat.not_lt_zero _)⟩⟩
      · rintro y rest b s' ⟨rfl, i, hit, rfl, hr, hi, hH⟩
        obtain ⟨hlt, hr2, k', v', u', hkv, hex, hHy⟩ := walk_step he haskey hr hi hH
        have hib : mIs P w s'.heap k' v' := his _ (List.mem_of_getElem? hkv)
        rw [hex]
        dsimp only
        by_cases hh : (mHash P w k' == mHash P w (.inr ks)) = true
        · rw [if_pos hh]
          refine wpAny_bind (wpAny_dictEpoch ho hd (wpAny_bind (m_eq (x := k') (y := .inr ks) hu hib hkey (wpAny_bind (wpAny_dictEpoch ho hd ?_)))))
          show wpAny _ _ (if (ep != ep) = true then _ else _) _ E _
          rw [if_neg (by simp)]
          by_cases hkk : k' = .inr ks
          · rw [decide_eq_true hkk]
            subst hkk
            have hno := hHy.fresh hn hkv
            subst hno
            first | rw [if_pos rfl] | skip
            simp only [Option.isSome_none, Bool.false_eq_true, if_false]
            first | refine wpAny_bind (wpAny_pure ?_) | skip
            refine wpAny_bind (wpAny_rule ?_)
            split
            · exact wpAny_pure (wpAny_pure (hsome y _ hkv))
            · exact wpAny_pure ⟨rfl, y + 1, some y, rfl, hr2, hlt, .inr ⟨y, _, rfl, Nat.lt_succ_self y, hkv⟩⟩
          · rw [decide_eq_false hkk]
            simp only [Bool.false_eq_true, if_false]
            refine wpAny_bind (wpAny_rule ?_)
            first | rw [if_neg (by simp)] | skip
            first
              | exact wpAny_pure ⟨rfl, y + 1, hit, rfl, hr2, hlt, hHy.pass hkv hkk⟩
              | exact wpAny_bind (wpAny_pure (wpAny_pure ⟨rfl, y + 1, hit, rfl, hr2, hlt, hHy.pass hkv hkk⟩))
        · rw [if_neg hh]
          refine wpAny_pure ⟨rfl, y + 1, hit, rfl, hr2, hlt, hHy.pass hkv ?_⟩
          intro hkk
          rw [hkk] at hh; simp at hh
      · rintro b s' ⟨rfl, i, hit, rfl, hr, hi, hH⟩
        rcases walk_end he haskey hr hi hH with ⟨rfl, hno⟩ | ⟨j, p, rfl, hj⟩
        · exact wpAny_pure (hnone hno)
        · exact wpAny_pure (hsome j p hj)
end
end Own
set_option Elab.async false
set_option linter.all false
set_option maxRecDepth 100000
set_option maxHeartbeats 2000000
/-! a dict with texts and tuples among its keys: read and written -/
namespace Own
open PySem PySem.Spec PyProof.Rows L2
section
variable (P : Program) (w : World)
structure MD (h : Heap) (d : Addr) (xs : List (MK × Value × Value)) : Prop where
  ex : ∃ o es ep, h.get? d = some o ∧ o.ExactDict ∧ o.data = .dict es ep ∧ es.toList = xs.map (mEnt P w)
  is : ∀ y ∈ xs, mIs P w h y.1 y.2.1
  nd : (xs.map (·.1)).Nodup
end
section
variable {P : Program} {w : World} {A : Around} {E : Value → Shared → Prop} {s : Shared} {d : Addr} {xs : List (MK × Value × Value)} {k : MK} {key : Value}
theorem MD.typeIs (hm : MD P w s.heap d xs) : s.TypeIs (.ref d) "dict" := by
  obtain ⟨o, _, _, ho, hc, _⟩ := hm.ex
  exact ⟨o, ho, hc.1⟩
theorem m_get {Q : Option Value → Shared → Prop} (hu : A.units < cLine) (hkey : mIs P w s.heap k key) (hm : MD P w s.heap d xs)
    (hno : (∀ (j : Nat) (p : Value × Value), xs[j]? ≠ some (k, p)) → Q none { s with toks := s.toks + mDraws k }) (hyes : ∀ (j : Nat) (p : Value × Value), xs[j]? = some (k, p) → Q (some p.2) { s with toks := s.toks + mDraws k }) : wpAny (model P w) A (dictGet d key) Q E s := by
  obtain ⟨o, es, ep, ho, _, hd, he⟩ := hm.ex
  unfold dictGet
  try with_reducible refine wpAny_holding ?_
  refine wpAny_bind (m_hash hu hkey (wpAny_bind (m_find (s := { s with toks := s.toks + mDraws k }) hu hkey ho hd he hm.is hm.nd (fun z => ?_) fun j p hj => ?_)))
  · exact wpAny_pure (hno z)
  · refine wpAny_bind (wpAny_dictEntries (s := { s with toks := s.toks + mDraws k }) ho hd ?_)
    rw [ent_at he j, hj]
    exact wpAny_pure (hyes j p hj)
theorem m_set {v : Value} {Q : Unit → Shared → Prop} (hu : A.units < cLine) (hkey : mIs P w s.heap k key) (hm : MD P w s.heap d xs) (hsz : xs.length ≤ sizeLine)
    (hnew : (∀ (j : Nat) (p : Value × Value), xs[j]? ≠ some (k, p)) → ∀ h', MD P w h' d (xs ++ [(k, key, v)]) → Heap.SameBut d s.heap h' → Q () { s with heap := h', toks := s.toks + mDraws k })
    (hold : ∀ (j : Nat) (p : Value × Value), xs[j]? = some (k, p) → ∀ h', MD P w h' d (xs.modify j fun y => (y.1, y.2.1, v)) → Heap.SameBut d s.heap h' → Q () { s with heap := h', toks := s.toks + mDraws k }) :
    wpAny (model P w) A (dictSet d key v) Q E s := by
  obtain ⟨o, es, ep, ho, hc, hd, he⟩ := hm.ex
  unfold dictSet
  try with_reducible refine wpAny_holding ?_
  refine wpAny_bind (m_hash hu hkey ?_)
  unfold dictSetHashed
  try with_reducible refine wpAny_holding ?_
  refine wpAny_bind (m_find (s := { s with toks := s.toks + mDraws k }) hu hkey ho hd he hm.is hm.nd (fun hno => ?_) fun j p hj => ?_)
  · have hnot : k ∉ xs.map (·.1) := fun m => by
      obtain ⟨y, hy, e⟩ := List.mem_map.mp m
      obtain ⟨j, hj, ej⟩ := List.getElem_of_mem hy
      exact hno j y.2 (by rw [List.getElem?_eq_getElem hj, ej, ← e])
    refine wpAny_bind (wpAny_rule (wpAny_updateDictKeys (hz := by have e := ent_size he; omega) (s := { s with toks := s.toks + mDraws k }) ho hd (hnew hno _ ⟨⟨_, _, ep + 1, Heap.get?_update_self _ ho (Obj.isFreed_of_dict (Obj.data_mapDictKeys hd _)),
      hc.mapDictKeys _, Obj.data_mapDictKeys hd _, ?_⟩, ?_, ?_⟩ (Heap.SameBut.update ..))))
    · simp [he, mEnt]
    · intro y hy
      rcases List.mem_append.mp hy with hy | hy
      · exact mIs_keeps (hm.is y hy) ho hd (Heap.SameBut.update ..)
      · rw [List.mem_singleton.mp hy]
        exact mIs_keeps hkey ho hd (Heap.SameBut.update ..)
    · rw [List.map_append, List.nodup_append]
      refine ⟨hm.nd, by simp, fun a ha b hb e => ?_⟩
      rw [List.map_cons, List.map_nil, List.mem_singleton] at hb
      exact hnot (by have e2 : b = k := hb; rw [← e2, ← e]; exact ha)
  · refine wpAny_bind (wpAny_rule (wpAny_bind (wpAny_updateDict (s := { s with toks := s.toks + mDraws k }) ho hd (wpAny_point (hold j p hj _ ⟨⟨_, _, ep, Heap.get?_update_self _ ho (Obj.isFreed_of_dict (Obj.data_mapDict hd _)),
      hc.mapDict _, Obj.data_mapDict hd _, ?_⟩, ?_, ?_⟩ (Heap.SameBut.update ..))))))
    · rw [Array.toList_modify, he]
      refine List.ext_getElem? fun i => ?_
      rw [List.getElem?_modify, List.getElem?_map, List.getElem?_map, List.getElem?_modify]
      cases hx : xs[i]? with
      | none => rfl
      | some y =>
        by_cases e : j = i
        · simp [e, mEnt]
        · simp [e]
    · intro y hy
      obtain ⟨i, hi, ei⟩ := List.getElem_of_mem hy
      have e1 : (xs.modify j fun y => (y.1, y.2.1, v))[i]? = some y := by rw [List.getElem?_eq_getElem hi, ei]
      rw [List.getElem?_modify] at e1
      cases hx : xs[i]? with
      | none => rw [hx] at e1; cases e1
      | some z =>
        rw [hx] at e1
        have hz := hm.is z (List.mem_of_getElem? hx)
        have hz2 := mIs_keeps hz ho hd (Heap.SameBut.update (h := s.heap) (a := d) (f := Obj.mapDict (·.modify j fun e => { e with val := v })))
        have e2 : (if j = i then (z.1, z.2.1, v) else z) = y := Option.some.inj e1
        by_cases e : j = i
        · rw [if_pos e] at e2
          rw [← e2]
          exact hz2
        · rw [if_neg e] at e2
          rw [← e2]
          exact hz2
    · have : (xs.modify j fun y => (y.1, y.2.1, v)).map (·.1) = xs.map (·.1) := by
        refine List.ext_getElem? fun i => ?_
        rw [List.getElem?_map, List.getElem?_map, List.getElem?_modify]
        cases xs[i]? with
        | none => rfl
        | some y => by_cases e : j = i <;> simp [e]
      rw [this]; exact hm.nd
end
end Own
set_option Elab.async false
set_option linter.all false
set_option maxRecDepth 100000
set_option maxHeartbeats 2000000
/-! the hand layer's rules for such a dict -/
namespace Own
open PySem PySem.Spec PyProof.Rows L2
def MR (x : MK × V × V) (v : MK × Value × Value) : Prop := x.1 = v.1 ∧ RelV x.2.1 v.2.1 ∧ RelV x.2.2 v.2.2
def MxO (P : Program) (w : World) (d : Addr) (xs : List (MK × V × V)) : HO := .ext fun h => xs.length ≤ sizeLine ∧ (d == sysModules) = false ∧ (xs.map (·.1)).Nodup ∧
  ∃ (vs : List (MK × Value × Value)) (o : Obj) (es : Array DictEntry) (ep : Nat), Paired MR xs vs ∧ h.get? d = some o ∧ o.ExactDict ∧ o.data = .dict es ep ∧ es.toList = vs.map (mEnt P w)
def KeyAt (H : Hp) (x : MK × V × V) : Prop := match x.1 with
  | .inl z => x.2.1 = .str z
  | .inr ks => ∃ a : Addr, x.2.1 = .ref a ∧ H a = some (.tup (ks.map kV))
def KeyL (K : PySem.W.Frag) (H : Hp) (y : V) : MK → Prop
  | .inl z => y = .str z
  | .inr ks => ∃ a : Addr, y = .ref a ∧ SqT K H a (ks.map kV)
structure MDic (P : Program) (w : World) (H : Hp) (d : Addr) (m : List (MK × V)) : Prop where
  ex : ∃ xs, H d = some (MxO P w d xs) ∧ (∀ x ∈ xs, KeyAt H x) ∧ m = xs.map fun x => (x.1, x.2.2)
theorem KeyAt.up {H H' : Hp} {x : MK × V × V} (h : KeyAt H x) (s : ∀ a ys, H a = some (.tup ys) → H' a = some (.tup ys)) : KeyAt H' x := by
  unfold KeyAt at h ⊢
  split at h
  · exact h
  · obtain ⟨a, e1, e2⟩ := h
    exact ⟨a, e1, s _ _ e2⟩
theorem MDic.up {P : Program} {w : World} {H H' : Hp} {d : Addr} {m : List (MK × V)} (h : MDic P w H d m) (s : Same H H') : MDic P w H' d m := by
  obtain ⟨xs, h1, h2, h3⟩ := h.ex
  exact ⟨xs, s _ _ h1, fun x hx => (h2 x hx).up fun a ys e => s _ _ e, h3⟩
section
variable {P : Program} {w : World}
theorem mr_keys : ∀ {xs : List (MK × V × V)} {vs : List (MK × Value × Value)}, Paired MR xs vs → vs.map (·.1) = xs.map (·.1)
  | _, _, .nil => rfl
  | _, _, .cons a b => by rw [List.map_cons, List.map_cons, mr_keys b, a.1]
theorem mr_at : ∀ {xs : List (MK × V × V)} {vs : List (MK × Value × Value)} {i : Nat} {v : MK × Value × Value}, Paired MR xs vs → vs[i]? = some v → ∃ x, xs[i]? = some x ∧ MR x v
  | _, _, 0, v, .cons a _, h => ⟨_, rfl, by rw [← Option.some.inj h]; exact a⟩
  | _, _, i + 1, v, .cons _ b, h => mr_at (i := i) b h
  | _, _, i, v, .nil, h => by simp at h
theorem mr_at' : ∀ {xs : List (MK × V × V)} {vs : List (MK × Value × Value)} {i : Nat} {x : MK × V × V}, Paired MR xs vs → xs[i]? = some x → ∃ v, vs[i]? = some v ∧ MR x v
  | _, _, 0, x, .cons a _, h => ⟨_, rfl, by rw [← Option.some.inj h]; exact a⟩
  | _, _, i + 1, x, .cons _ b, h => mr_at' (i := i) b h
  | _, _, i, x, .nil, h => by simp at h
theorem mr_snoc : ∀ {xs : List (MK × V × V)} {vs : List (MK × Value × Value)} {x : MK × V × V} {v : MK × Value × Value}, Paired MR xs vs → MR x v → Paired MR (xs ++ [x]) (vs ++ [v])
  | _, _, _, _, .nil, h => .cons h .nil
  | _, _, _, _, .cons a b, h => .cons a (mr_snoc b h)
theorem mr_mod {y : V} {u : Value} (ry : RelV y u) : ∀ {xs : List (MK × V × V)} {vs : List (MK × Value × Value)} (j : Nat), Paired MR xs vs → Paired MR (xs.modify j fun x => (x.1, x.2.1, y)) (vs.modify j fun x => (x.1, x.2.1, u))
  | _, _, _, .nil => by simpa using .nil
  | _, _, 0, .cons a b => .cons ⟨a.1, a.2.1, ry⟩ b
  | _, _, j + 1, .cons a b => .cons a (mr_mod ry j b)
theorem tup_is {h : Heap} {ks : List L2.Key} {a : Addr} {its : List Value} (r : Vals (ks.map kV) its) (ht : IsTup h a its.toArray) : (tupleKind (mixKind P w)).is h ks a := by
  obtain ⟨o, h1, h2, n, h3⟩ := ht
  exact ⟨o, its.toArray, n, h1, h2, h3, by simpa using items_are r⟩
section
variable {X : Cx} {pins : List (Addr × Obj)} {σ : L2.St} {H : Hp} {s : Shared} {d : Addr}
theorem key_real (I : L2.Inv X pins σ H s) {y : V} {u : Value} {k : MK} (hk : KeyL X.K H y k) (ry : RelV y u) : mIs X.prog X.w s.heap k u := by
  cases k with
  | inl z =>
    have e : y = .str z := hk
    subst e
    exact ry
  | inr ks =>
    obtain ⟨a, e, hs⟩ := hk
    subst e
    obtain rfl : u = Value.ref a := ry
    obtain ⟨its, r, ht, _⟩ := I.tuple hs
    exact ⟨a, rfl, tup_is r ht⟩
theorem keyAt_real (I : L2.Inv X pins σ H s) {x : MK × V × V} {v : MK × Value × Value} (hk : KeyAt H x) (r : MR x v) : mIs X.prog X.w s.heap v.1 v.2.1 := by
  obtain ⟨k, y, z⟩ := x
  obtain ⟨k2, u, z2⟩ := v
  obtain ⟨e, r1, _⟩ := r
  cases e
  cases k with
  | inl z =>
    have e : y = .str z := hk
    subst e
    exact r1
  | inr ks =>
    obtain ⟨a, e, hs⟩ := (show ∃ a : Addr, y = .ref a ∧ H a = some (.tup (ks.map kV)) from hk)
    subst e
    obtain rfl : u = Value.ref a := r1
    exact ⟨a, rfl, key_of I.hok hs⟩
theorem md_of (I : L2.Inv X pins σ H s) {xs : List (MK × V × V)} (h1 : H d = some (MxO X.prog X.w d xs)) (h2 : ∀ x ∈ xs, KeyAt H x) :
    xs.length ≤ sizeLine ∧ (d == sysModules) = false ∧ (xs.map (·.1)).Nodup ∧ ∃ vs, Paired MR xs vs ∧ MD X.prog X.w s.heap d vs := by
  obtain ⟨hl, hs, hn, vs, o, es, ep, hp, ho, hc, hd, he⟩ := (show ObjOk X.prog X.w H s.heap d (MxO X.prog X.w d xs) from I.hok d _ h1).1
  refine ⟨hl, hs, hn, vs, hp, ⟨o, es, ep, ho, hc, hd, he⟩, fun v hv => ?_, by rw [mr_keys hp]; exact hn⟩
  obtain ⟨i, hi, e⟩ := List.getElem_of_mem hv
  obtain ⟨x, hx, r⟩ := mr_at hp (by rw [List.getElem?_eq_getElem hi, e])
  exact keyAt_real I (h2 x (List.mem_of_getElem? hx)) r
theorem mx_ok {h : Heap} {xs : List (MK × V × V)} {vs : List (MK × Value × Value)} (hl : xs.length ≤ sizeLine) (hs : (d == sysModules) = false) (hn : (xs.map (·.1)).Nodup) (hp : Paired MR xs vs)
    (ex : ∃ o es ep, h.get? d = some o ∧ o.ExactDict ∧ o.data = .dict es ep ∧ es.toList = vs.map (mEnt X.prog X.w)) : ObjOk X.prog X.w H h d (MxO X.prog X.w d xs) := by
  obtain ⟨o, es, ep, ho, hc, hd, he⟩ := ex
  refine ⟨⟨hl, hs, hn, vs, o, es, ep, hp, ho, hc, hd, he⟩, ⟨o, ho⟩, fun h1 h2 z k => ?_⟩
  obtain ⟨a1, a2, a3, vs1, o1, es1, ep1, b1, b2, b3, b4, b5⟩ := z
  exact ⟨a1, a2, a3, vs1, o1, es1, ep1, b1, k _ b2, b3, b4, b5⟩
/-- what stands at a place of the pairs -/
theorem val_of {xs : List (MK × V × V)} (hn : (xs.map (·.1)).Nodup) {j : Nat} {x : MK × V × V} (h : xs[j]? = some x) : valV (xs.map fun x => (x.1, x.2.2)) x.1 = some x.2.2 := by
  induction xs generalizing j with
  | nil => simp at h
  | cons y r ih =>
    rw [List.map_cons, List.nodup_cons] at hn
    cases j with
    | zero =>
      cases h
      exact valV_pos rfl
    | succ j =>
      have hm : x.1 ∈ r.map (·.1) := List.mem_map.mpr ⟨x, List.mem_of_getElem? (show r[j]? = some x from h), rfl⟩
      rw [List.map_cons, valV_neg (fun e : y.1 = x.1 => hn.1 (by rw [e]; exact hm))]
      exact ih hn.2 (show r[j]? = some x from h)
theorem val_none {xs : List (MK × V × V)} {k : MK} (h : ∀ (j : Nat) (p : V × V), xs[j]? ≠ some (k, p)) : valV (xs.map fun x => (x.1, x.2.2)) k = none := by
  induction xs with
  | nil => rfl
  | cons y r ih =>
    rw [List.map_cons, valV_neg (fun e : y.1 = k => h 0 y.2 (by rw [← e]; rfl))]
    exact ih fun j p e => h (j + 1) p e
end
end
end Own
set_option Elab.async false
set_option linter.all false
set_option maxRecDepth 100000
set_option maxHeartbeats 2000000
/-! d[k], k in d, d[k] = v; a dict of texts told as such a dict -/
namespace Own
open PySem PySem.Spec PyProof.Rows L2
section
variable {X : Cx} {pins : List (Addr × Obj)} {σ : L2.St} {H : Hp} {s : Shared} {d : Addr} {m : List (MK × V)} {k : MK} {y : V} {u : Value} {A : Around} {E : Value → Shared → Prop}
theorem mx_getItem {Q : Value → Shared → Prop} {v : V} (hu : A.units + 1 < cLine) (I : L2.Inv X pins σ H s) (g : MDic X.prog X.w H d m) (hk : KeyL X.K H y k) (ry : RelV y u) (hv : valV m k = some v) (h : ∀ w' s', L2.Inv X pins σ H s' → RelV v w' → Q w' s') :
    wpAny (model X.prog X.w) A (getItem (.ref d) u) Q E s := by
  obtain ⟨xs, h1, h2, rfl⟩ := g.ex
  obtain ⟨_, _, hn, vs, hp, hm⟩ := md_of I h1 h2
  unfold getItem
  try with_reducible refine wpAny_holding ?_
  refine wpAny_bind (wpAny_sequenceKey hm.typeIs (by decide) ?_)
  refine wpAny_bind (wpAny_callSpecial?_slot (name := Str.ofString "__getitem__") hm.typeIs PySem.F.slot_dict_getitem (wpAny_call_entry PySem.F.slot_dict_getitem hm.typeIs PySem.F.entry_dict_getitem ?_ (PySem.F.args_dict_getitem_2 _ _)))
  show wpAny _ _ (dictGet d u >>= _) _ _ s
  refine wpAny_bind (m_get (A := A.in1) hu (key_real I hk ry) hm (fun z => ?_) fun j p hj => ?_)
  · rw [val_none fun j p e => ?_] at hv
    · cases hv
    · obtain ⟨v2, e2, r⟩ := mr_at' hp e
      obtain ⟨k2, q⟩ := v2
      exact z j q (by rw [e2, show k2 = k from r.1.symm])
  · obtain ⟨x, hx, r⟩ := mr_at hp hj
    have e := val_of hn hx
    rw [show x.1 = k from r.1] at e
    rw [hv] at e
    have e2 : v = x.2.2 := Option.some.inj e
    exact wpAny_pure ⟨p.2, rfl, wpAny_pure (h _ _ (I.tok _) (by rw [e2]; exact r.2.2))⟩
theorem mx_in {Q : Value → Shared → Prop} (hu : A.units + 1 < cLine) (I : L2.Inv X pins σ H s) (g : MDic X.prog X.w H d m) (hk : KeyL X.K H y k) (ry : RelV y u) (h : ∀ s', L2.Inv X pins σ H s' → Q (.bool (valV m k).isSome) s') :
    wpAny (model X.prog X.w) A (compareOp .In u (.ref d)) Q E s := by
  obtain ⟨xs, h1, h2, rfl⟩ := g.ex
  obtain ⟨_, hsm, hn, vs, hp, hm⟩ := md_of I h1 h2
  show wpAny _ _ (do return .bool (← contains (.ref d) u)) Q E s
  refine wpAny_bind ?_
  unfold contains
  try with_reducible refine wpAny_holding ?_
  refine wpAny_bind (wpAny_specialOf hm.typeIs PySem.F.slot_dict_contains.lookup ?_)
  show wpAny _ _ (if (some (Value.builtin "dict.__contains__") == some Value.none) = true then _ else _) _ E s
  rw [if_neg (by rw [beq_builtin_none]; exact Bool.false_ne_true)]
  refine wpAny_bind (wpAny_callSpecialUnlessNone?_slot (name := Str.ofString "__contains__") hm.typeIs PySem.F.slot_dict_contains
    (wpAny_call_entry PySem.F.slot_dict_contains hm.typeIs PySem.F.entry_dict_contains ?_ (PySem.F.args_dict_contains_2 _ _)))
  show wpAny _ _ (dictGet d u >>= _) _ _ s
  refine wpAny_bind (m_get (A := A.in1) hu (key_real I hk ry) hm (fun z => ?_) fun j p hj => ?_)
  · have e0 := val_none (xs := xs) (k := k) fun j p e => by
      obtain ⟨v2, e2, r⟩ := mr_at' hp e
      obtain ⟨k2, q⟩ := v2
      exact z j q (by rw [e2, show k2 = k from r.1.symm])
    rw [e0] at h
    show wpAny _ _ (Builtin.Dict.pendingKey? d u >>= _) _ _ _
    exact wpAny_bind (wpAny_pendingKey_other hsm (wpAny_pure ⟨_, rfl, wpAny_truthy_bool (wpAny_pure (h _ (I.tok _)))⟩))
  · obtain ⟨x, hx, r⟩ := mr_at hp hj
    have e := val_of hn hx
    rw [show x.1 = k from r.1] at e
    rw [e] at h
    show wpAny _ _ (ret (.bool true)) _ _ _
    exact wpAny_pure ⟨_, rfl, wpAny_truthy_bool (wpAny_pure (h _ (I.tok _)))⟩
theorem keyAt_new {k : MK} {y v : V} {H : Hp} (hk : KeyAt H (k, y, v)) : ∀ v', KeyAt H (k, y, v') := fun v' => hk
/-- d[y] = v: what the key is stands in the heap as a tuple of one's own, or is a text -/
theorem mx_setItem {r : Value} {v : V} {Q : Unit → Shared → Prop} (hu : A.units + 1 < cLine) (I : L2.Inv X pins σ H s) (g : MDic X.prog X.w H d m) (hk : KeyL X.K H y k) (hka : KeyAt H (k, y, v)) (hl : m.length < sizeLine) (ry : RelV y u) (rv : RelV v r)
    (h : ∀ o s', MDic X.prog X.w (upd H d o) d (putK m k v) → L2.Inv X pins σ (upd H d o) s' → Q () s') : wpAny (model X.prog X.w) A (setItem (.ref d) u r) Q E s := by
  obtain ⟨xs, h1, h2, rfl⟩ := g.ex
  obtain ⟨hl0, hsm, hn, vs, hp, hm⟩ := md_of I h1 h2
  have hlx : xs.length < sizeLine := by rw [List.length_map] at hl; exact hl
  have hlv : vs.length = xs.length := hp.length.symm
  have keep : ∀ {o : HO} (x : MK × V × V), KeyAt H x → KeyAt (upd H d o) x := fun x z => z.up fun a ys e => by
    rw [upd_ne (ne_of e h1 (fun q => nomatch q))]; exact e
  unfold setItem
  try with_reducible refine wpAny_holding ?_
  refine wpAny_bind (wpAny_sequenceKey hm.typeIs (by decide) ?_)
  refine wpAny_bind (wpAny_callSpecial?_slot (name := Str.ofString "__setitem__") hm.typeIs PySem.F.slot_dict_setitem (wpAny_call_entry PySem.F.slot_dict_setitem hm.typeIs PySem.F.entry_dict_setitem ?_ (PySem.F.args_dict_setitem_3 _ _ _)))
  show wpAny _ _ (Builtin.Dict.notOrdered "__setitem__" ⟨[.ref d, u, r], []⟩ >>= _) _ _ s
  refine wpAny_bind (wpAny_notOrdered_dict hm.typeIs ?_)
  show wpAny _ _ (dictSet d u r >>= _) _ _ s
  have mu : Mut (H d) := by rw [h1]; exact True.intro
  refine wpAny_bind (m_set (A := A.in1) hu (key_real I hk ry) hm (by rw [hlv]; exact hl0) (fun hno h' hm' hs' => wpAny_pure ⟨.none, rfl, wpAny_pure (h (MxO X.prog X.w d (xs ++ [(k, y, v)])) _ ⟨⟨_, upd_same, fun x hx => ?_, ?_⟩⟩ ?_)⟩) fun j p hj h' hm' hs' => wpAny_pure ⟨.none, rfl, wpAny_pure (h (MxO X.prog X.w d (xs.modify j fun x => (x.1, x.2.1, v))) _ ⟨⟨_, upd_same, fun x hx => ?_, ?_⟩⟩ ?_)⟩)
  · rcases List.mem_append.mp hx with hx | hx
    · exact keep _ (h2 x hx)
    · rw [List.mem_singleton.mp hx]; exact keep _ hka
  · have e0 := val_none (xs := xs) (k := k) fun j p e => by
      obtain ⟨v2, e2, r⟩ := mr_at' hp e
      obtain ⟨k2, q⟩ := v2
      exact hno j q (by rw [e2, show k2 = k from r.1.symm])
    rw [putK_new v e0, List.map_append]; rfl
  · have hpn := mr_snoc hp (show MR (k, y, v) (k, u, r) from ⟨rfl, ry, rv⟩)
    have hnn : ((xs ++ [(k, y, v)]).map (·.1)).Nodup := by rw [← mr_keys hpn]; exact hm'.nd
    obtain ⟨o, es, ep, ho, q⟩ := hm'.ex
    exact d_write I mu hs' ⟨o, ho⟩ (mx_ok (by rw [List.length_append, List.length_singleton]; omega) hsm hnn hpn ⟨o, es, ep, ho, q⟩)
  · obtain ⟨i, hi, e⟩ := List.getElem_of_mem hx
    have e1 : (xs.modify j fun x => (x.1, x.2.1, v))[i]? = some x := by rw [List.getElem?_eq_getElem hi, e]
    rw [List.getElem?_modify] at e1
    cases hz : xs[i]? with
    | none => rw [hz] at e1; cases e1
    | some z =>
      rw [hz] at e1
      have e2 : (if j = i then (z.1, z.2.1, v) else z) = x := Option.some.inj e1
      have hzk := h2 z (List.mem_of_getElem? hz)
      by_cases c : j = i
      · rw [if_pos c] at e2
        rw [← e2]; exact keep _ hzk
      · rw [if_neg c] at e2
        rw [← e2]; exact keep _ hzk
  · obtain ⟨x, hx, rx⟩ := mr_at hp hj
    have ek : x.1 = k := rx.1
    have he := val_of hn hx
    rw [ek] at he
    unfold putK
    rw [valV_any, he]
    refine List.ext_getElem? fun i => ?_
    simp only [Option.isSome_some, if_true, List.getElem?_map, List.getElem?_modify]
    cases hz : xs[i]? with
    | none => rfl
    | some z =>
      by_cases c : j = i
      · subst c
        rw [hx] at hz
        cases hz
        simp [ek]
      · have nk : ¬ z.1 = k := fun q => c (by
          have a1 : (xs.map (·.1))[j]? = some k := by rw [List.getElem?_map, hx, ← ek]; rfl
          have a2 : (xs.map (·.1))[i]? = some k := by rw [List.getElem?_map, hz, ← q]; rfl
          obtain ⟨b1, c1⟩ := List.getElem?_eq_some_iff.mp a1
          obtain ⟨b2, c2⟩ := List.getElem?_eq_some_iff.mp a2
          exact (List.getElem_inj hn).mp (c1.trans c2.symm))
        simp [c, nk]
  · have hpn := mr_mod rv j hp
    have hnn : ((xs.modify j fun x => (x.1, x.2.1, v)).map (·.1)).Nodup := by rw [← mr_keys hpn]; exact hm'.nd
    obtain ⟨o, es, ep, ho, q⟩ := hm'.ex
    exact d_write I mu hs' ⟨o, ho⟩ (mx_ok (by rw [List.length_modify]; exact hl0) hsm hnn hpn ⟨o, es, ep, ho, q⟩)
end
end Own
set_option Elab.async false
set_option linter.all false
set_option maxRecDepth 100000
set_option maxHeartbeats 2000000
/-! expressions and statements over such a dict -/
namespace Own
open PySem PySem.Spec PyProof.Rows L2
def tMGet (P : Program) (w : World) (K : PySem.W.Frag) (td ty : TE) : TE := fun σ H Q => td σ H fun x H1 => ty σ H1 fun y H2 => ∃ d m k v, x = .ref d ∧ MDic P w H2 d m ∧ KeyL K H2 y k ∧ valV m k = some v ∧ Q v H2
def tMIn (P : Program) (w : World) (K : PySem.W.Frag) (ty td : TE) : TE := fun σ H Q => ty σ H fun y H1 => td σ H1 fun x H2 => ∃ d m k, x = .ref d ∧ MDic P w H2 d m ∧ KeyL K H2 y k ∧ Q (.bl (valV m k).isSome) H2
def sMPut (P : Program) (w : World) (K : PySem.W.Frag) (td ty tv : TE) : TS := fun D σ H => tv σ H fun v H1 => td σ H1 fun x H2 => ty σ H2 fun y H3 => ∃ d m k, x = .ref d ∧ MDic P w H3 d m ∧ KeyL K H3 y k ∧ KeyAt H3 (k, y, v) ∧ m.length < sizeLine ∧ ∀ o, MDic P w (upd H3 d o) d (putK m k v) → D.nx σ (upd H3 d o)
/-- a dict of texts is told as one with texts and tuples -/
def tMix (P : Program) (w : World) (t : TE) : TE := fun σ H Q => t σ H fun x H1 => ∃ d kvs, x = .ref d ∧ H1 d = some (.dK kvs) ∧ ∃ m : List (Str × V), kvs = m.map (fun q => (.inr q.1, q.2)) ∧ ∀ o, MDic P w (upd H1 d o) d (m.map fun q => (.inl q.1, q.2)) → Q x (upd H1 d o)
section
variable {X : Cx}
theorem md_type {pins : List (Addr × Obj)} {σ : L2.St} {H : Hp} {s : Shared} {d : Addr} {m : List (MK × V)} (I : L2.Inv X pins σ H s) (g : MDic X.prog X.w H d m) : s.TypeIs (.ref d) "dict" := by
  obtain ⟨xs, h1, h2, rfl⟩ := g.ex
  obtain ⟨_, _, _, vs, _, hm⟩ := md_of I h1 h2
  exact hm.typeIs
theorem pe_mget {P : Program} {w : World} {K : PySem.W.Frag} (hP : X.prog = P) (hw : X.w = w) (hK : X.K = K) {o i : Expr} {td ty : TE} {pos : Pos} (hu : X.A.units + 1 < cLine) (ho : PE X o td) (hi : PE X i ty) (hs : NoSl i) : PE X (.Subscript o i pos) (tMGet P w K td ty) := by
  subst hP hw hK
  refine ⟨fun pins s σ H Q I h => ?_⟩
  refine subD_of PySem.F.slot_dict_getitem.lookup hs (thn (ho.run pins s σ H _ I h) fun u s1 ⟨x, H1, I1, rx, q1⟩ => thn (hi.run pins s1 σ H1 _ I1 q1) fun iv s2 ⟨y, H2, I2, ry, d, m, k, v, ex, g, hk, hv, q2⟩ => ?_)
  subst ex
  obtain rfl : u = Value.ref d := rx
  exact ⟨md_type I2 g, mx_getItem hu I2 g hk ry hv fun w' s3 I3 rw' => ⟨v, H2, I3, rw', q2⟩⟩
theorem pc_min {P : Program} {w : World} {K : PySem.W.Frag} (hP : X.prog = P) (hw : X.w = w) (hK : X.K = K) {o i : Expr} {td ty : TE} (hu : X.A.units + 1 < cLine) (hi : PE X i ty) (ho : PE X o td) : PC X .In i o (tMIn P w K ty td) := by
  subst hP hw hK
  refine ⟨fun pins s σ H Q I h => ?_⟩
  refine thn (hi.run pins s σ H _ I h) fun iv s1 ⟨y, H1, I1, ry, q1⟩ => thn (ho.run pins s1 σ H1 _ I1 q1) fun u s2 ⟨x, H2, I2, rx, d, m, k, ex, g, hk, q2⟩ => ?_
  subst ex
  obtain rfl : u = Value.ref d := rx
  exact mx_in hu I2 g hk ry fun s3 I3 => ⟨.bl (valV m k).isSome, H2, I3, rfl, q2⟩
theorem ps_mput {P : Program} {w : World} {K : PySem.W.Frag} (hP : X.prog = P) (hw : X.w = w) (hK : X.K = K) {o i value : Expr} {td ty tv : TE} {pos pos' : Pos} (hu : X.A.units + 1 < cLine) (ho : PE X o td) (hi : PE X i ty) (hv : PE X value tv) (hs : swapsWith value (some (.Subscript o i pos')) pos.line X.env = pure false) :
    PS X (.Assign [.Subscript o i pos'] value pos) (sMPut P w K td ty tv) := by
  subst hP hw hK
  refine ⟨fun pins s σ H D I h => ?_⟩
  refine wpAny_Assign_Subscript (thn (hv.run pins s σ H _ I h) fun r s1 ⟨v, H1, I1, rv, q1⟩ => thn (ho.run pins s1 σ H1 _ I1 q1) fun u s2 ⟨x, H2, I2, rx, q2⟩ => thn (hi.run pins s2 σ H2 _ I2 q2) fun iv s3 ⟨y, H3, I3, ry, d, m, k, ex, g, hk, hka, hl, q3⟩ => ?_) hs
  subst ex
  obtain rfl : u = Value.ref d := rx
  exact mx_setItem hu I3 g hk hka hl ry rv fun o s4 g4 I4 => ⟨σ, _, I4, q3 o g4⟩
theorem mix_key {P : Program} {w : World} {x : Str} {u : Value} (h : (mixKind P w).is (.inr x) u = true) : ∃ t, u = .str x t := by
  rcases keyIs_shape (show keyIs (.inr x) u = true from h) with ⟨i, t, e, _⟩ | ⟨z, t, e, rfl⟩
  · cases e
  · cases e
    exact ⟨t, rfl⟩
theorem ent_key {P : Program} {w : World} {e : DictEntry} {x : Str} {y : V} {v : Value} (h1 : (mixKind P w).is (.inr x) e.key = true) (h2 : e.val = v) (hh : ∃ k, (mixKind P w).is k e.key = true ∧ e.hash = (mixKind P w).hash k) (ry : RelV y v) :
    mEnt P w (.inl x, e.key, e.val) = e ∧ MR (.inl x, .str x, y) (.inl x, e.key, e.val) := by
  obtain ⟨k', b1, b2⟩ := hh
  have ek : k' = .inr x := (mixKind P w).inj _ _ _ b1 h1
  rw [ek] at b2
  refine ⟨?_, rfl, mix_key h1, by rw [h2]; exact ry⟩
  obtain ⟨eh, ekk, ev⟩ := e
  have b3 : eh = (mixKind P w).hash (.inr x) := b2
  rw [b3]
  rfl
theorem pairs_mx {P : Program} {w : World} (m : List (Str × V)) : ∀ {l : List DictEntry} {vs : List (L2.Key × Value)}, Pairs (mixKind P w) l vs → (∀ e ∈ l, ∃ k, (mixKind P w).is k e.key = true ∧ e.hash = (mixKind P w).hash k) → KV (m.map fun q => ((.inr q.1 : L2.Key), q.2)) vs →
    ∃ vs' : List (MK × Value × Value), l = vs'.map (mEnt P w) ∧ Paired MR (m.map fun q => ((.inl q.1 : MK), V.str q.1, q.2)) vs' := by
  induction m with
  | nil =>
    intro l vs hp hk rel
    cases rel
    cases hp
    exact ⟨[], rfl, .nil⟩
  | cons q m ih =>
    intro l vs hp hk rel
    cases rel with
    | @cons _ kv _ rest a b =>
      cases hp with
      | @cons e _ es _ h1 h2 r =>
        obtain ⟨vs', e1, e2⟩ := ih r (fun z hz => hk z (List.mem_cons_of_mem _ hz)) b
        obtain ⟨k, v⟩ := kv
        obtain ⟨a1, a2⟩ := a
        have a3 : k = .inr q.1 := a1.symm
        subst a3
        obtain ⟨z1, z2⟩ := ent_key h1 h2 (hk e (List.mem_cons_self ..)) a2
        exact ⟨(.inl q.1, e.key, e.val) :: vs', by rw [List.map_cons, z1, ← e1], .cons z2 e2⟩
theorem pe_mix {P : Program} {w : World} (hP : X.prog = P) (hw : X.w = w) {e : Expr} {t : TE} (he : PE X e t) : PE X e (tMix P w t) := by
  subst hP hw
  refine ⟨fun pins s σ H Q I h => ?_⟩
  refine thn (he.run pins s σ H _ I h) fun u s1 ⟨x, H1, I1, rx, d, kvs, ex, hd, m, em, q⟩ => ?_
  subst ex em
  obtain ⟨hl, hsm, vs, rel, o, es, ep, ho, hc, hdat, hko, hpr, hnd⟩ := dk_of I1.hok hd
  obtain ⟨vs', e1, e2⟩ := pairs_mx m hpr (fun e he => hko e (Array.mem_toList_iff.mp he)) rel
  have hn : ((m.map fun q => ((.inl q.1 : MK), V.str q.1, q.2)).map (·.1)).Nodup := by
    have h1 : (vs.map (·.1)) = m.map fun q => (.inr q.1 : L2.Key) := by rw [← rel.keys, List.map_map]; rfl
    rw [h1] at hnd
    rw [List.map_map]
    exact List.pairwise_map.mpr ((List.pairwise_map.mp hnd).imp fun n e => n (by rw [show _ = _ from Sum.inl.inj e]))
  have I2 : L2.Inv X pins σ (upd H1 d (MxO X.prog X.w d (m.map fun q => ((.inl q.1 : MK), V.str q.1, q.2)))) s1 :=
    Inv.write (t' := s1.toks) I1 (x := d) (e := d) (by rw [hd]; exact True.intro) (.inl rfl) (fun _ _ _ z => z) ⟨o, ho⟩ (mx_ok (by rw [List.length_map] at hl ⊢; exact hl) hsm hn e2 ⟨o, es, ep, ho, hc, hdat, e1⟩)
  refine ⟨.ref d, _, I2, rx, q _ ⟨⟨_, upd_same, fun y hy => ?_, by rw [List.map_map]; rfl⟩⟩⟩
  obtain ⟨z, _, rfl⟩ := List.mem_map.mp hy
  rfl
end
end Own
set_option Elab.async false
set_option linter.all false
set_option maxRecDepth 100000
set_option maxHeartbeats 2000000
/-! own classes: x + y, x & y by an own def; a static method; an exception of an own class without __init__ of its own, its base an own class, too -/
namespace Own
open PySem PySem.Spec PyProof.Rows L2
section
variable {X : Cx} {CX : CXT} {C f : Addr} {fd : FuncData} {ps : List Str} {n : Nat} {sp : Sp} {E : XK} {op : Operator}
/-- x op y by the def of x's class; what stands on the right is told by oth; the answer is an object -/
def rOp (C : Addr) (sp : Sp) (E : XK) (oth : V → Hp → Prop) : R2 := fun x y H Q => ∃ a dx fs, x = .ref a ∧ H a = some (.ins C dx fs) ∧ oth y H ∧ sp [x, y] H (fun v H' => ∃ p, v = .ref p ∧ Q (.ref p) H') E
/-- on the right an instance of the same class -/
def likeIt (C : Addr) : V → Hp → Prop := fun y H => ∃ b dy gs, y = .ref b ∧ H b = some (.ins C dy gs)
def intIt : V → Hp → Prop := fun y _ => ∃ i : Int, y = .int i
theorem op_like (F : FnOk X.prog X.w X.K X.mg X.base CX n f fd ps sp) (hs : PySem.W.findIn X.K (.ref C) (PySem.dunder op.info.2) = some (some (.ref f))) (hf : PySem.W.isFn X.K (.ref f) = true) (hc : PySem.W.selfFirst X.K C = true) (hb : L2.Binds X.K fd ps []) (hx : Passes CX X E) (hr : Room n X.A) :
    OpR X (binaryOp op) (rOp C sp E (likeIt C)) := by
  rintro pins s σ H x y u v Q I rx ry ⟨a, dx, fs, rfl, ha, ⟨b, dy, gs, rfl, hb2⟩, hsp⟩
  cases (show u = Value.ref a from rx)
  cases (show v = Value.ref b from ry)
  obtain ⟨mA, J, _⟩ := ins_get I.hok ha
  obtain ⟨mB, L, _⟩ := ins_get I.hok hb2
  obtain ⟨odA, J, _⟩ := J.look
  obtain ⟨odB, L, _⟩ := L.look
  obtain ⟨m, hF⟩ := I.fr
  show wpAny (model X.prog X.w) X.A (binaryOp op (.ref a) (.ref b)) (EP X pins σ Q) X.xe s
  refine PySem.W.binop_K hF I.ok.mod.kin J L.type hc hs hf ?_
  refine wpAny_mono (own_call F hb hx hr rfl I (x := .ref a) (y := .ref b) rfl rfl hsp) (fun r s' h => ?_) fun _ _ z => z
  obtain ⟨z, H', rz, I', p, rfl, q⟩ := h
  cases (show r = Value.ref p from rz)
  exact ⟨.ref p, H', I', rfl, q⟩
theorem op_intR {fo ro rc : Option Value} (F : FnOk X.prog X.w X.K X.mg X.base CX n f fd ps sp) (hs : PySem.W.findIn X.K (.ref C) (PySem.dunder op.info.2) = some (some (.ref f))) (hf : PySem.W.isFn X.K (.ref f) = true) (hc : PySem.W.selfFirst X.K C = true)
    (hrc : PySem.W.findIn X.K (.ref C) (dunderR op.info.2) = some none) (h1 : PySem.W.findIn X.K (.type "int") (PySem.dunder op.info.2) = some fo) (h2 : PySem.W.findIn X.K (.type "int") (dunderR op.info.2) = some ro) (hsub : PySem.W.subIn X.K (.type "int") (.ref C) = some false)
    (hb : L2.Binds X.K fd ps []) (hx : Passes CX X E) (hr : Room n X.A) : OpR X (binaryOp op) (rOp C sp E intIt) := by
  rintro pins s σ H x y u v Q I rx ry ⟨a, dx, fs, rfl, ha, ⟨i, rfl⟩, hsp⟩
  cases (show u = Value.ref a from rx)
  obtain ⟨t, rfl⟩ : ∃ t, v = Value.int i t := ry
  obtain ⟨mA, J, _⟩ := ins_get I.hok ha
  obtain ⟨odA, J, _⟩ := J.look
  obtain ⟨m, hF⟩ := I.fr
  show wpAny (model X.prog X.w) X.A (binaryOp op (.ref a) (.int i t)) (EP X pins σ Q) X.xe s
  refine PySem.W.ksp_binT hF I.ok.mod.kin J (T := "int") rfl hc hs hf hrc (.inl rfl) h1 h2 hsub ?_
  refine wpAny_mono (own_call F hb hx hr rfl I (x := .ref a) (y := .int i) rfl ⟨t, rfl⟩ hsp) (fun r s' h => ?_) fun _ _ z => z
  obtain ⟨z, H', rz, I', p, rfl, q⟩ := h
  cases (show r = Value.ref p from rz)
  exact ⟨.ref p, H', I', rfl, q⟩
end
/-! ### dicts -/
theorem hits_flatA {A : Around} {s : Shared} {ls : List (Key × V)} {vb : List (Key × Value)} (rb : KV ls vb) (fl : ∀ k u, valV ls k = some u → flatV u = true) {ks : List (Key × V)} {va : List (Key × Value)}
    (ra : KV ks va) : (∀ p ∈ ks, flatV p.2 = true) → PySem.W.KeqHits A s vb va (eqKv ks ls) := by
  unfold KV at ra
  induction ra with
  | nil => intro _; exact .nil
  | @cons p q ps qs h t k =>
    intro hp
    obtain ⟨h1, h2⟩ := h
    have rr : RelO (valV ls p.1) (valueAt vb p.1) := rb.val p.1
    obtain ⟨key, v⟩ := q
    have h1' : p.1 = key := h1
    have rest := k fun p' hm => hp p' (List.mem_cons_of_mem _ hm)
    cases e : valV ls p.1 with
    | none =>
      rw [e] at rr
      have hn : valueAt vb key = none := by
        rw [← h1']
        cases hv : valueAt vb p.1 with
        | none => rfl
        | some z => rw [hv] at rr; exact rr.elim
      have hb : eqKv (p :: ps) ls = false := by unfold eqKv; rw [List.all_cons, e]; rfl
      rw [hb]
      exact .miss hn
    | some u =>
      rw [e] at rr
      obtain ⟨y, hy, ry⟩ := rr.some_of
      rw [h1'] at hy
      have hb : eqKv (p :: ps) ls = (eqV p.2 u && eqKv ps ls) := by unfold eqKv; rw [List.all_cons, e]
      rw [hb]
      exact .hit hy (eqAt_V h2 ry (hp p List.mem_cons_self) (fl _ _ e)) rest
/-- a != b of dicts of flat things, any answer -/
def rNeDF : R2 := fun x y H Q => ∃ a b ks ls, x = .ref a ∧ y = .ref b ∧ H a = some (.dK ks) ∧ H b = some (.dK ls) ∧ (∀ p ∈ ks, flatV p.2 = true) ∧ (∀ k u, valV ls k = some u → flatV u = true) ∧ Q (.bl !(ks.length == ls.length && eqKv ks ls)) H
theorem op_neDF {X : Cx} (hu : X.A.units + 64 < cLine) : OpR X (compareOp .NotEq) rNeDF := by
  rintro pins s σ H x y v u Q I rx ry ⟨a, b, ks, ls, rfl, rfl, ha, hb, f1, f2, q⟩
  cases (show v = Value.ref a from rx)
  cases (show u = Value.ref b from ry)
  obtain ⟨_, ya, va, ra, da⟩ := (show ObjOk X.prog X.w H s.heap a (.dK ks) from I.hok a _ ha)
  obtain ⟨_, yb, vb, rb, db⟩ := (show ObjOk X.prog X.w H s.heap b (.dK ls) from I.hok b _ hb)
  have la : ks.length = va.length := by unfold KV at ra; exact ra.length
  have lb : ls.length = vb.length := by unfold KV at rb; exact rb.length
  refine PySem.W.keq_ne (knd := mixKind X.prog X.w) (r := eqKv ks ls) ya yb da db (by omega) (fun _ => hits_flatA rb f2 ra f1) ?_
  rw [← la, ← lb]
  exact ⟨.bl _, H, I, rfl, q⟩
/-! ### an exception without __init__ of its own -/
theorem pmk_bare {X : Cx} {C : Addr} {x : Str} {p pos : Pos} (q : PySem.W.excInitIn X.K C [.type "ValueError", .type "Exception", .type "BaseException", .type "object"] "ValueError.__new__" = true) (hi : PySem.W.findIn X.K (.ref C) "__init__" = some (some (.builtin "ValueError.__init__")))
    (gC : X.mg x = some (.ref C)) (kC : PySem.W.keepIn X.K (.ref C) = true) (r : Raises X (.ref C)) (hg : Gl X x) (hdb : (x == ("__debug__" : Str)) = false := by decide) : PMk X (.Call (.Name x p) [] [] pos) (fun _ H Q => Q (.ref C) none H) := by
  intro pins s σ H Q I h
  refine wpAny_Call_Name_kw (ld_glob I hg gC ?_ hdb)
  refine PySem.W.callWith_K0 (first := []) I.kIn kC ?_
  show wpAny _ _ (call (.ref C) []) _ _ _
  have KI := I.kIn
  obtain ⟨nm, N, qn, bs, bm, hd, sn, sub, ab, col, dd, k0, k1, k2, k3, k5, hC, hT⟩ := PySem.W.excInit_of KI q
  have bare := I.bare
  have hok := I.hok
  obtain ⟨hp, g, d, t, os⟩ := s
  refine PySem.W.call_B F.excBase_ValueError hT hC (PySem.W.looks_findIn KI hi) (Nat.zero_le _) (fun h' k e1 e2 => ?_)
  have nw : hp.get? (hp.objs.size + 1) = none := by
    cases z : hp.get? (hp.objs.size + 1) with
    | none => rfl
    | some o => exact absurd (Heap.lt_size z) (Nat.not_lt.mpr (Nat.le_succ _))
  exact ⟨_, _, _, ⟨hp, g, d, t, os⟩, H, .ref C, none, rfl, I, k, nw, e1, ⟨rfl, rfl⟩, rfl, rfl, hok.gone nw, rfl, bare, r, h⟩
/-! ### a static method by its class's name -/
/-- what the written part says of C.m, a static method around the def at f -/
structure StaM (K : PySem.W.Frag) (C : Addr) (m : Str) (f : Addr) : Prop where
  ty : PySem.W.typeIn K (.ref C) = some (.type "type")
  rd : PySem.W.readsIn K C (.type "type") = true
  sp : PySem.W.specialIn K (.ref C) "__getattribute__" = some (some (.builtin "type.__getattribute__"))
  at_ : ∃ p rest, PySem.W.findCls K (.ref C) (.type "type") m = some (.get (.builtin "staticmethod.__get__") (.ref p) .none (.ref C)) ∧ PySem.W.recIn K p "staticmethod" = some (.ref f :: rest)
  kp : PySem.W.keepIn K (.ref f) = true
def tSt (C : Addr) (sp : Sp) (E : XK) (ta : TE) (t : TA) : TE := fun σ H Q => ta σ H fun x H1 => x = .ref C ∧ t σ H1 fun vs H2 => sp vs H2 Q E
theorem pe_stm {X : Cx} {CX : CXT} {C f : Addr} {m : Str} {fd : FuncData} {ps : List Str} {k : Nat} {sp : Sp} {E : XK} {o e : Expr} {es : List Expr} {pos apos : Pos} {ta : TE} {t : TA} {pl : Sem Bool} (he : PE X o ta) (M : StaM X.K C m f) (F : FnOk X.prog X.w X.K X.mg X.base CX k f fd ps sp) (hr : Room k X.A)
    (hb : L2.Binds X.K fd ps []) (hx : Passes CX X E) (ha : PA X (e :: es) t) (hst : starEach (e :: es) X.env = (false, eval e X.env) :: starEach es X.env := by rfl) (hpl : (backTo pos (starEach es X.env)).any (·.1) = false := by rfl)
    (ht : eval (.Call (.Attribute o m apos) (e :: es) [] pos) X.env = (do
      let cv ← eval o X.env
      standAt apos.atName
      let (f, first) ← holding [cv] (getMethod cv m pl)
      callWith pos f first (backTo pos (starEach (e :: es) X.env)) (backToKw pos (keywordEach [] X.env))) := by rfl) : PE X (.Call (.Attribute o m apos) (e :: es) [] pos) (tSt C sp E ta t) := by
  refine ⟨fun pins s σ H Q I h => ?_⟩
  refine PySem.W.methodCall_KW (pl := pl) (thn (he.run pins s σ H _ I h) fun u s1 ⟨x, H1, I1, rx, ex, q⟩ => ?_) ht
  subst ex
  obtain rfl : u = Value.ref C := rx
  obtain ⟨p, rest, hc, hrec⟩ := M.at_
  obtain ⟨m1, hF⟩ := I1.fr
  refine PySem.W.method_of_cls hF I1.ok.mod.kin M.sp (PySem.W.cls_sm hF I1.ok.mod.kin M.ty M.rd hc hrec rfl ?_)
  have I2 : L2.Inv X pins σ H1 { s1 with toks := s1.toks + 1 } := I1.kept (t' := s1.toks + 1) fun _ _ z => z
  refine PySem.W.callWith_K (first := []) (h₀ := X.base) I1.ok.mod.kin M.kp (thn (ha.run pos pins _ σ H1 _ I2 q) fun us s2 ⟨vs, H2, I3, r, q2⟩ => ⟨I3.kIn, ?_⟩) hst hpl
  exact run_fn (ds := []) (dvs := []) F hr hb .nil hx I3 r (by rw [List.append_nil]; exact q2)
end Own
set_option Elab.async false
set_option linter.all false
set_option maxRecDepth 100000
set_option maxHeartbeats 2000000
/-! try: several clauses, some with a name -/
namespace Own
open PySem PySem.Spec PyProof.Rows L2
theorem int_add {K : PySem.W.Frag} : PySem.W.findIn K (.type "int") (PySem.dunder (Operator.info .Add).2) = some (some (.builtin "int.__add__")) := by
  show PySem.fastLookup "int" _ = _
  kernel_rfl
theorem int_radd {K : PySem.W.Frag} : PySem.W.findIn K (.type "int") (dunderR (Operator.info .Add).2) = some (some (.builtin "int.__radd__")) := by
  show PySem.fastLookup "int" _ = _
  kernel_rfl
/-- an except clause: the class, the slot of its name if it has one, its suite -/
structure Clause where
  ex : Value
  slot : Option Nat
  act : Addr → Value → Option Addr → TS
/-- the ends of a suite behind which a name goes -/
def dropAt (i : Nat) (D : Ends) : Ends where
  nx := fun σ H => D.nx (σ.set i none) H
  rt := D.rt
  bk := fun σ H => D.bk (σ.set i none) H
  ct := fun σ H => D.ct (σ.set i none) H
def suiteOf (k : Clause) (a : Addr) (c : Value) (d : Option Addr) (D : Ends) (σ : L2.St) (H : Hp) : Prop := match k.slot with
  | none => k.act a c d D σ H
  | some i => k.act a c d (dropAt i D) (σ.set i (some (.ref a))) H
/-- the first clause that matches is done; none: the wish without -/
def wCl (K : PySem.W.Frag) (Wo : WX) (D : Ends) : List Clause → WX
  | [] => Wo
  | k :: r => fun c d σ H => ∃ b, PySem.W.exmOne K c k.ex = some b ∧ (b = true → ∀ a, H a = none → suiteOf k a c d D σ H) ∧ (b = false → wCl K Wo D r c d σ H)
def SuiteOk (X : Cx) (st : List Stmt) (ts : Addr → Value → Option Addr → TS) : Prop :=
  ∀ (a : Addr) (oe : Obj) (cls : Value) (d : Option Addr) (pn : List (Addr × Obj)), Zc cls d oe → (∃ fs, oe.data = .fields fs) → PSs (X.suite a ((a, oe) :: pn)) st (ts a cls d)
inductive Clauses (X : Cx) : List ExceptHandler → List Clause → Prop
  | nil : Clauses X [] []
  | plain {x : Str} {c : Value} {ts : Addr → Value → Option Addr → TS} {b : Stmt} {su : List Stmt} {np ps : Pos} {r : List ExceptHandler} {l : List Clause} (hc : Names X x c) (hu : SuiteOk X (b :: su) ts) (hr : Clauses X r l) :
      Clauses X (.ExceptHandler (some (.Name x np)) none (b :: su) ps :: r) (⟨c, none, ts⟩ :: l)
  | named {x n : Str} {i : Nat} {c : Value} {ts : Addr → Value → Option Addr → TS} {b : Stmt} {su : List Stmt} {np ps : Pos} {r : List ExceptHandler} {l : List Clause} (hi : X.N[i]? = some n) (hk : X.env.kindOf n = some .local) (hc : Names X x c) (hu : SuiteOk X (b :: su) ts) (hr : Clauses X r l) :
      Clauses X (.ExceptHandler (some (.Name x np)) (some n) (b :: su) ps :: r) (⟨c, some i, ts⟩ :: l)
section
variable {X : Cx} {pins : List (Addr × Obj)} {σ : L2.St} {H : Hp} {D : Ends} {Wo : WX} {sI s3 : Shared} {a : Addr} {B : Heap} {cls : Value} {d : Option Addr}
/-- what stands when an error has come to the try's clauses -/
structure Come (X : Cx) (pins : List (Addr × Obj)) (σ : L2.St) (H : Hp) (Wo : WX) (sI s3 : Shared) (a : Addr) (B : Heap) (cls : Value) (d : Option Addr) : Prop where
  ok : X.Ok
  stk : X.stack = X.env :: X.outer
  loc : X.env.frame = some X.env.locals
  nd : X.N.Nodup
  tk : Takes X Wo
  was : L2.Inv X pins σ H sI
  low : ∀ b o, sI.heap.get? b = some o → b ∉ frs X.stack → B.get? b = some o
  up : sI.heap.UpToSlots s3.heap
  fly : HandSPX.FlyingZ B (X.env :: X.outer) a (Zc cls d) s3.heap
  free : H a = none
  os : s3.os = sI.os
  bare : AllBare s3.gens
theorem Come.inv (c : Come X pins σ H Wo sI s3 a B cls d) : L2.Inv X pins σ H s3 := c.was.landed c.low c.fly.1 c.up c.os c.bare
theorem Come.on (c : Come X pins σ H Wo sI s3 a B cls d) {h : Heap} (f : HandSPX.FlyingZ B (X.env :: X.outer) a (Zc cls d) h) (u : s3.heap.UpToSlots h) : Come X pins σ H Wo sI { s3 with heap := h } a B cls d :=
  { c with up := c.up.trans u, fly := f }
theorem Come.suite (c : Come X pins σ H Wo sI s3 a B cls d) : ∃ oe fs, s3.heap.get? a = some oe ∧ Zc cls d oe ∧ oe.data = .fields fs ∧ L2.Inv (X.suite a ((a, oe) :: (X.pn ++ pins))) [] σ H s3 := by
  obtain ⟨oe, fs, g1, g2, g3⟩ := c.fly.there
  have off : a ∉ frs (X.env :: X.outer) := fun m => by
    obtain ⟨_, u, g4, no⟩ := c.fly.2.2.1.mem m
    rw [g1] at g4
    exact no fs (by rw [← Option.some.inj g4]; exact g3)
  refine ⟨oe, fs, g1, g2, g3, c.inv.suite g1 g3 c.free (fun z => off ?_) fun m => off ?_⟩
  · exact List.mem_filterMap.mpr ⟨X.env, List.mem_cons_self, by rw [c.loc, z]⟩
  · obtain ⟨e, m1, m2⟩ := List.mem_filterMap.mp m
    exact List.mem_filterMap.mpr ⟨e, List.mem_cons_of_mem _ m1, m2⟩
/-- the clause's class is looked at -/
theorem Come.test (c : Come X pins σ H Wo sI s3 a B cls d) {x : Str} {np : Pos} {k : Value} (hn : Names X x k) {Q E : Value → Shared → Prop} (q : Q k s3) : wpAny (model X.prog X.w) (X.A.mark (some (.ref a))) (eval (.Name x np) X.env) Q E s3 := by
  obtain ⟨oe, fs, _, _, _, J⟩ := c.suite
  obtain ⟨h1, h2, h3 | ⟨h3, h4, h5⟩⟩ := hn
  · exact ld_glob (X := X.suite a ((a, oe) :: (X.pn ++ pins))) J h1 h3 q h2
  · exact ld_blt (X := X.suite a ((a, oe) :: (X.pn ++ pins))) J h1 h3 h4 q h5 h2
theorem Come.match_ (c : Come X pins σ H Wo sI s3 a B cls d) {k : Value} {b : Bool} (e : PySem.W.exmOne X.K cls k = some b) {Q : Bool → Shared → Prop} {E : Value → Shared → Prop} {A : Around} (q : Q b s3) : wpAny (model X.prog X.w) A (excMatches (.ref a) k) Q E s3 := by
  obtain ⟨oe, fs, g1, g2, _, J⟩ := c.suite
  exact (PySem.W.exm_one (M := model X.prog X.w) J.kIn (fun _ _ _ _ kk q => wpAny_typeOf_ref (kk _ _ g1) (by rw [g2.1]; exact q)) e).here q
theorem Come.go (c : Come X pins σ H Wo sI s3 a B cls d) {hds : List ExceptHandler} {l : List Clause} (hh : Clauses X hds l) : wCl X.K Wo D l cls d σ H → wpAny (model X.prog X.w) X.A (handleBy (.ref a) X.env hds) (SP X pins D) X.xe s3 := by
  induction hh with
  | nil =>
    intro w
    refine wpAny_handleBy_nil ?_
    have f := c.fly
    obtain ⟨_, _, _, oe, fs, T, oT, ts, g1, g2, g3, g4, _⟩ := id f
    unfold PySem.passOn
    refine wpAny_bind (wpAny_field g1 g3 g4 ?_)
    rw [if_neg (by simp : ¬ ((Value.ref T == Value.none) = true))]
    have out : wpAny (model X.prog X.w) X.A (setFlight (.ref a) X.env.frame) (fun _ s4 => wpAny (model X.prog X.w) X.A (throw (.ref a) : Sem Flow) (SP X pins D) X.xe s4) X.xe s3 := by
      rw [c.loc]
      refine HandSPX.setFlight_upZ f fun h4 held u4 => wpAny_throw (c.tk _ _ ⟨a, B, sI, pins, σ, H, cls, d, rfl, c.was, c.low, c.up.trans u4, .inr (.inr ?_), c.free, c.os, c.bare, w⟩)
      rw [c.stk]; exact held
    first
      | exact wpAny_bind (wpAny_pure (wpAny_bind out))
      | exact wpAny_bind out
  | @plain x k ts b su np ps r l hc hu hr ih =>
    intro ⟨m, e, yes, no⟩
    refine wpAny_handleBy_cons (codeAny_handlers_test (c.test hc (c.match_ e ?_))) (fun z => by cases z)
    cases m with
    | false => exact ih (no rfl)
    | true =>
      refine codeAny_handlers_suite (HandSPX.lands_againZ c.fly fun h4 f4 u4 => ?_)
      obtain ⟨oe, fs, g1, g2, g3, J⟩ := (c.on f4 u4).suite
      refine wpAny_mono ((hu a oe cls d (X.pn ++ pins) g2 ⟨fs, g3⟩).run [] _ σ H D J (yes rfl a c.free)) (fun fl s6 z => ?_) fun _ _ z => z.elim
      cases fl with
      | ret u =>
        obtain ⟨v, σ6, H6, J6, rv, q⟩ := z
        exact ⟨v, σ6, H6, J6.unsuite c.ok, rv, q⟩
      | next => exact z.imp fun σ6 z => z.imp fun H6 z => ⟨z.1.unsuite c.ok, z.2⟩
      | brk => exact z.imp fun σ6 z => z.imp fun H6 z => ⟨z.1.unsuite c.ok, z.2⟩
      | cont => exact z.imp fun σ6 z => z.imp fun H6 z => ⟨z.1.unsuite c.ok, z.2⟩
  | @named x n i k ts b su np ps r l hi hk hc hu hr ih =>
    intro ⟨m, e, yes, no⟩
    refine wpAny_handleBy_cons (codeAny_handlers_test (c.test hc (c.match_ e ?_))) (fun z => by cases z)
    cases m with
    | false => exact ih (no rfl)
    | true =>
      refine codeAny_handlers_suite_as (HandSPX.lands_againZ c.fly fun h4 f4 u4 => ?_)
      obtain ⟨oe, fs, g1, g2, g3, J⟩ := (c.on f4 u4).suite
      refine store_ok (X := X.suite a ((a, oe) :: (X.pn ++ pins))) (v := .ref a) J c.nd hi (.inl hk) rfl (fun s5 J5 => ?_) (.inr hk)
      refine wpAny_mono ((hu a oe cls d (X.pn ++ pins) g2 ⟨fs, g3⟩).run [] s5 _ H (dropAt i D) J5 (yes rfl a c.free)) (fun fl s6 z => ?_) fun _ _ z => z.elim
      have gone : ∀ {σ6 : L2.St} {H6 : Hp} {Q : Shared → Prop}, L2.Inv (X.suite a ((a, oe) :: (X.pn ++ pins))) [] σ6 H6 s6 → (∀ s7, L2.Inv X pins (σ6.set i none) H6 s7 → Q s7) →
          wpAny (model X.prog X.w) X.A (do bindName X.env n .none; unbindBehindTheSuite X.env n ps) (fun _ s7 => Q s7) X.xe s6 := fun J6 q => gone_ok (J6.unsuite c.ok) c.nd hi hk q
      cases fl with
      | ret u =>
        obtain ⟨v, σ6, H6, J6, rv, q⟩ := z
        exact gone J6 fun s7 J7 => ⟨v, _, H6, J7, rv, q⟩
      | next => obtain ⟨σ6, H6, J6, q⟩ := z; exact gone J6 fun s7 J7 => ⟨_, H6, J7, q⟩
      | brk => obtain ⟨σ6, H6, J6, q⟩ := z; exact gone J6 fun s7 J7 => ⟨_, H6, J7, q⟩
      | cont => obtain ⟨σ6, H6, J6, q⟩ := z; exact gone J6 fun s7 J7 => ⟨_, H6, J7, q⟩
end
/-- try: body except X as n: .. except Y: .. -/
theorem ps_clauses {X : Cx} {body : List Stmt} {h0 : ExceptHandler} {hds : List ExceptHandler} {l : List Clause} {pos : Pos} {tb : WX → TS} {Wo : WX} (hs : X.stack = X.env :: X.outer) (hf : X.env.frame = some X.env.locals) (nd : X.N.Nodup) (tk : Takes X Wo)
    (hb : ∀ (W : WX) (pn : List (Addr × Obj)) (xe : Value → Shared → Prop), Takes (X.tr pn xe) W → PassesOwn (model X.prog X.w) X.A X.env xe → PSs (X.tr pn xe) body (tb W))
    (hh : Clauses X (h0 :: hds) l) : PS X (.Try body (h0 :: hds) [] [] pos) (fun D σ H => tb (wCl X.K Wo D l) D σ H) := by
  refine ⟨fun pins s σ H D I h => ?_⟩
  have okX := I.ok
  refine wpAny_Try_except (wpAny_mono ((hb (wCl X.K Wo D l) (X.pn ++ pins) (fun e s1 => wpAny (model X.prog X.w) X.A (noteFrame e X.env) (fun _ s2 => wpAny (model X.prog X.w) X.A (setFlight e none) (fun _ s3 =>
    wpAny (model X.prog X.w) X.A (handleBy e X.env (h0 :: hds)) (SP X pins D) X.xe s3) X.xe s2) X.xe s1) (fun u s1 z => ?_) PassesOwn.looking).run [] s σ H D (I.toTry _) h) (fun fl s1 z => ?_) fun e s1 z => z)
  · obtain ⟨a, B, sI, ps, σ1, H1, cls, d, rfl, J, low, up, sky, free, os, bare, w⟩ := z
    have K1 := J.ofTry okX
    have sk : Sky B (X.env :: X.outer) a (Zc cls d) X.env.locals s1.heap := by rw [← hs]; exact sky
    show wpAny (model X.prog X.w) X.A (noteFrame (.ref a) X.env) _ _ _
    refine Sky.land Zc.steady (by rw [okX.frames, hs]) hf sk fun h3 f3 u3 => ?_
    exact Come.go (sI := sI) (s3 := { s1 with heap := h3 }) (B := B) (Wo := Wo) ⟨okX, hs, hf, nd, tk, K1, low, up.trans u3, f3, free, os, bare⟩ hh w
  · cases fl with
    | next =>
      obtain ⟨σ1, H1, J, q⟩ := z
      exact wpAny_execs_nil ⟨σ1, H1, J.ofTry okX, q⟩
    | ret u =>
      obtain ⟨v, σ1, H1, J, rv, q⟩ := z
      exact ⟨v, σ1, H1, J.ofTry okX, rv, q⟩
    | brk => obtain ⟨σ1, H1, J, q⟩ := z; exact ⟨σ1, H1, J.ofTry okX, q⟩
    | cont => obtain ⟨σ1, H1, J, q⟩ := z; exact ⟨σ1, H1, J.ofTry okX, q⟩
end Own
set_option Elab.async false
set_option linter.all false
set_option maxRecDepth 100000
set_option maxHeartbeats 2000000
namespace Own
open PySem PySem.Spec PyProof.Rows L2
/-! ### o[i] with an own __getitem__ -/
def tItm (C : Addr) (sp : Sp) (E : XK) (ta tb : TE) : TE := tOp (fun x y H Q => ∃ a dx fs, x = V.ref a ∧ H a = some (.ins C dx fs) ∧ sp [x, y] H Q E) ta tb
theorem pe_itm {X : Cx} {CX : CXT} {C f : Addr} {fd : FuncData} {ps : List Str} {n : Nat} {sp : Sp} {E : XK} {a b : Expr} {ta tb : TE} {pos : Pos} (ha : PE X a ta) (F : FnOk X.prog X.w X.K X.mg X.base CX n f fd ps sp)
    (hs : PySem.W.findIn X.K (.ref C) "__getitem__" = some (some (.ref f))) (hfi : PySem.W.fnIn X.K f = true) (hf : PySem.W.isFn X.K (.ref f) = true) (hb : L2.Binds X.K fd ps []) (hx : Passes CX X E) (hr : Room (n + 1) X.A) (hp : PE X b tb)
    (hsl : ∀ o i, subscripted b true o i = runValue (.builtin "lifetime.subscript" ⟨[o, i], []⟩)) : PE X (.Subscript a b pos) (tItm C sp E ta tb) := by
  refine ⟨fun pins s σ H Q I h => ?_⟩
  refine Subscript_ (binT ha hp I h fun v u s2 x y H2 I2 rx ry q => ?_)
  obtain ⟨p, dx, fs, ex, hp2, hsp⟩ := q
  subst ex
  cases (show v = Value.ref p from rx)
  obtain ⟨mA, J, _⟩ := ins_get I2.hok hp2
  obtain ⟨od, J, _⟩ := J.look
  obtain ⟨m, hF⟩ := I2.fr
  refine PySem.W.sub_K hF I2.ok.mod.kin J hs hfi hf ?_ (hsl _ _)
  refine wpAny_mono (own_call F hb hx hr.in1 rfl I2 (x := .ref p) rfl ry hsp) (fun w s' h => ?_) fun _ _ h => h
  obtain ⟨z, H', rz, I', q⟩ := h
  exact ⟨z, H', I', rz, q⟩
/-! ### a, b = a list or a tuple -/
theorem pg_lt {X : Cx} {pos : Pos} {es : List Expr} {k : Nat} {t : TGs} {n : Nat} (hc : X.calm = true) (h : PGs X es t)
    (hn : (assignEach es X.env).length = n := by rfl) (hst : (assignEach es X.env).findIdx? (·.1) = none := by rfl) : PG X (.Tuple es k pos) (fun v σ H Q => gLst X.K n t v σ H Q ∨ gTup X.K n t v σ H Q) := by
  refine ⟨fun pins s σ H v u Q I r hw => ?_⟩
  rcases hw with hw | hw
  · exact (pg_lst hc h hn hst).run pins s σ H v u Q I r hw
  · exact (pg_tup hc h hn hst).run pins s σ H v u Q I r hw
end Own
namespace Own
open PySem PySem.Spec PyProof.Rows L2
def rIxLT (K : PySem.W.Frag) : R2 := fun x y H Q => rIxL K x y H Q ∨ rIxT K x y H Q
theorem ixLtOf {X : Cx} {K : PySem.W.Frag} (h : X.K = K) : IxR X (rIxLT K) := h ▸ ix_list.or ix_tup
end Own
set_option Elab.async false
set_option linter.all false
set_option maxRecDepth 100000
set_option maxHeartbeats 2000000
/-! == and != of own instances inside of a comprehension -/
namespace Own
open PySem PySem.Spec PyProof.Rows L2
variable {X : Cx} {CX : CXT} {K : PySem.W.Frag} {C f : Addr} {fd : FuncData} {ps : List Str} {n : Nat} {sp : Sp} {E : XK}
theorem eqOwnOf (hK : X.K = K) (F : FnOk X.prog X.w X.K X.mg X.base CX n f fd ps sp) (hs : PySem.W.findIn X.K (.ref C) "__eq__" = some (some (.ref f))) (hf : PySem.W.isFn X.K (.ref f) = true) (hb : L2.Binds X.K fd ps []) (hx : Passes CX X E) (hr : Room n X.A) :
    OpR X (compareOp .Eq) (rOwn K C sp E false) := by
  subst hK
  exact op_eqOwn F hs hf hb hx hr
theorem neOwnOf (hK : X.K = K) (F : FnOk X.prog X.w X.K X.mg X.base CX n f fd ps sp) (hne : PySem.W.findIn X.K (.ref C) "__ne__" = some (some (.builtin "object.__ne__"))) (hm : PySem.W.mroIn X.K C (.type "object") = some true)
    (hs : PySem.W.findIn X.K (.ref C) "__eq__" = some (some (.ref f))) (hf : PySem.W.isFn X.K (.ref f) = true) (hb : L2.Binds X.K fd ps []) (hx : Passes CX X E) (hr : Room (n + 1) X.A) :
    OpR X (compareOp .NotEq) (rOwn K C sp E true) := by
  subst hK
  exact op_neOwn F hne hm hs hf hb hx hr
end Own
set_option Elab.async false
set_option linter.all false
set_option maxRecDepth 100000
set_option maxHeartbeats 4000000
namespace K5
open PySem L2
def top (i : Nat) : Stmt := PySem.Challenge.pw_cookcalls_k09_books_told.main.body.getD i (.Pass ⟨0, 0, 0, 0⟩)
abbrev s_is_integer : Stmt := top 5
abbrev N_is_integer : List Str := ["thing"]
abbrev P_is_integer : List Str := ["thing"]
theorem sc_is_integer : FnScope N_is_integer P_is_integer (defScope s_is_integer) := ⟨rfl, rfl, rfl, by decide +kernel, rfl, by decide +kernel, by decide +kernel⟩
abbrev s_is_list : Stmt := top 6
abbrev N_is_list : List Str := ["thing"]
abbrev P_is_list : List Str := ["thing"]
theorem sc_is_list : FnScope N_is_list P_is_list (defScope s_is_list) := ⟨rfl, rfl, rfl, by decide +kernel, rfl, by decide +kernel, by decide +kernel⟩
abbrev s_is_name : Stmt := top 7
abbrev N_is_name : List Str := ["thing", "sign"]
abbrev P_is_name : List Str := ["thing"]
theorem sc_is_name : FnScope N_is_name P_is_name (defScope s_is_name) := ⟨rfl, rfl, rfl, by decide +kernel, rfl, by decide +kernel, by decide +kernel⟩
abbrev s_is_dish : Stmt := top 8
abbrev N_is_dish : List Str := ["thing", "dishes"]
abbrev P_is_dish : List Str := ["thing", "dishes"]
theorem sc_is_dish : FnScope N_is_dish P_is_dish (defScope s_is_dish) := ⟨rfl, rfl, rfl, by decide +kernel, rfl, by decide +kernel, by decide +kernel⟩
abbrev s_alike : Stmt := top 9
abbrev N_alike : List Str := ["one", "other", "mine", "yours"]
abbrev P_alike : List Str := ["one", "other"]
theorem sc_alike : FnScope N_alike P_alike (defScope s_alike) := ⟨rfl, rfl, rfl, by decide +kernel, rfl, by decide +kernel, by decide +kernel⟩
abbrev s_copied : Stmt := top 10
abbrev N_copied : List Str := ["thing", "part", "key"]
abbrev P_copied : List Str := ["thing"]
theorem sc_copied : FnScope N_copied P_copied (defScope s_copied) := ⟨rfl, rfl, rfl, by decide +kernel, rfl, by decide +kernel, by decide +kernel⟩
abbrev s_NoDish___init__ : Stmt := inClass (top 13) 0
abbrev N_NoDish___init__ : List Str := ["self", "name"]
abbrev P_NoDish___init__ : List Str := ["self", "name"]
theorem sc_NoDish___init__ : FnScope N_NoDish___init__ P_NoDish___init__ (defScope s_NoDish___init__) := ⟨rfl, rfl, rfl, by decide +kernel, rfl, by decide +kernel, by decide +kernel⟩
abbrev s_check_dish : Stmt := top 20
abbrev N_check_dish : List Str := ["name", "dishes"]
abbrev P_check_dish : List Str := ["name", "dishes"]
theorem sc_check_dish : FnScope N_check_dish P_check_dish (defScope s_check_dish) := ⟨rfl, rfl, rfl, by decide +kernel, rfl, by decide +kernel, by decide +kernel⟩
abbrev s_way_up : Stmt := top 22
abbrev N_way_up : List Str := ["name", "hooks", "names", "hook"]
abbrev P_way_up : List Str := ["name", "hooks"]
theorem sc_way_up : FnScope N_way_up P_way_up (defScope s_way_up) := ⟨rfl, rfl, rfl, by decide +kernel, rfl, by decide +kernel, by decide +kernel⟩
abbrev s_Hanging___init__ : Stmt := inClass (top 24) 0
abbrev N_Hanging___init__ : List Str := ["self", "rows", "name"]
abbrev P_Hanging___init__ : List Str := ["self", "rows"]
theorem sc_Hanging___init__ : FnScope N_Hanging___init__ P_Hanging___init__ (defScope s_Hanging___init__) := ⟨rfl, rfl, rfl, by decide +kernel, rfl, by decide +kernel, by decide +kernel⟩
abbrev s_Hanging_rows : Stmt := inClass (top 24) 1
abbrev N_Hanging_rows : List Str := ["self"]
abbrev P_Hanging_rows : List Str := ["self"]
theorem sc_Hanging_rows : FnScope N_Hanging_rows P_Hanging_rows (defScope s_Hanging_rows) := ⟨rfl, rfl, rfl, by decide +kernel, rfl, by decide +kernel, by decide +kernel⟩
abbrev s_Hanging___eq__ : Stmt := inClass (top 24) 6
abbrev N_Hanging___eq__ : List Str := ["self", "other"]
abbrev P_Hanging___eq__ : List Str := ["self", "other"]
theorem sc_Hanging___eq__ : FnScope N_Hanging___eq__ P_Hanging___eq__ (defScope s_Hanging___eq__) := ⟨rfl, rfl, rfl, by decide +kernel, rfl, by decide +kernel, by decide +kernel⟩
abbrev s_check_rows : Stmt := top 25
abbrev N_check_rows : List Str := ["rows", "name"]
abbrev P_check_rows : List Str := ["rows"]
theorem sc_check_rows : FnScope N_check_rows P_check_rows (defScope s_check_rows) := ⟨rfl, rfl, rfl, by decide +kernel, rfl, by decide +kernel, by decide +kernel⟩
abbrev s_is_hook : Stmt := top 26
abbrev N_is_hook : List Str := ["thing", "rows", "key"]
abbrev P_is_hook : List Str := ["thing", "rows"]
theorem sc_is_hook : FnScope N_is_hook P_is_hook (defScope s_is_hook) := ⟨rfl, rfl, rfl, by decide +kernel, rfl, by decide +kernel, by decide +kernel⟩
abbrev s_check_rounds : Stmt := top 27
abbrev N_check_rounds : List Str := ["hooks", "name", "names"]
abbrev P_check_rounds : List Str := ["hooks"]
theorem sc_check_rounds : FnScope N_check_rounds P_check_rounds (defScope s_check_rounds) := ⟨rfl, rfl, rfl, by decide +kernel, rfl, by decide +kernel, by decide +kernel⟩
abbrev s_round_from : Stmt := top 28
abbrev N_round_from : List Str := ["name", "hooks", "names", "hook"]
abbrev P_round_from : List Str := ["name", "hooks"]
theorem sc_round_from : FnScope N_round_from P_round_from (defScope s_round_from) := ⟨rfl, rfl, rfl, by decide +kernel, rfl, by decide +kernel, by decide +kernel⟩
abbrev s_Book___init__ : Stmt := inClass (top 30) 0
abbrev N_Book___init__ : List Str := ["self", "rows", "name"]
abbrev P_Book___init__ : List Str := ["self", "rows"]
theorem sc_Book___init__ : FnScope N_Book___init__ P_Book___init__ (defScope s_Book___init__) := ⟨rfl, rfl, rfl, by decide +kernel, rfl, by decide +kernel, by decide +kernel⟩
abbrev s_Book_of : Stmt := inClass (top 30) 1
abbrev N_Book_of : List Str := ["hanging", "sums", "hooks", "waits", "name"]
abbrev P_Book_of : List Str := ["hanging", "sums"]
theorem sc_Book_of : FnScope N_Book_of P_Book_of (defScope s_Book_of) := ⟨rfl, rfl, rfl, by decide +kernel, rfl, by decide +kernel, by decide +kernel⟩
abbrev s_Book_rows : Stmt := inClass (top 30) 2
abbrev N_Book_rows : List Str := ["self", "name"]
abbrev P_Book_rows : List Str := ["self"]
theorem sc_Book_rows : FnScope N_Book_rows P_Book_rows (defScope s_Book_rows) := ⟨rfl, rfl, rfl, by decide +kernel, rfl, by decide +kernel, by decide +kernel⟩
abbrev s_Book_hanging : Stmt := inClass (top 30) 3
abbrev N_Book_hanging : List Str := ["self"]
abbrev P_Book_hanging : List Str := ["self"]
theorem sc_Book_hanging : FnScope N_Book_hanging P_Book_hanging (defScope s_Book_hanging) := ⟨rfl, rfl, rfl, by decide +kernel, rfl, by decide +kernel, by decide +kernel⟩
abbrev s_Book_wait : Stmt := inClass (top 30) 4
abbrev N_Book_wait : List Str := ["self", "name"]
abbrev P_Book_wait : List Str := ["self", "name"]
theorem sc_Book_wait : FnScope N_Book_wait P_Book_wait (defScope s_Book_wait) := ⟨rfl, rfl, rfl, by decide +kernel, rfl, by decide +kernel, by decide +kernel⟩
abbrev s_Book_added : Stmt := inClass (top 30) 5
abbrev N_Book_added : List Str := ["self", "name", "dish"]
abbrev P_Book_added : List Str := ["self", "name"]
theorem sc_Book_added : FnScope N_Book_added P_Book_added (defScope s_Book_added) := ⟨rfl, rfl, rfl, by decide +kernel, rfl, by decide +kernel, by decide +kernel⟩
abbrev s_Book___getitem__ : Stmt := inClass (top 30) 7
abbrev N_Book___getitem__ : List Str := ["self", "at"]
abbrev P_Book___getitem__ : List Str := ["self", "at"]
theorem sc_Book___getitem__ : FnScope N_Book___getitem__ P_Book___getitem__ (defScope s_Book___getitem__) := ⟨rfl, rfl, rfl, by decide +kernel, rfl, by decide +kernel, by decide +kernel⟩
abbrev s_Book___iter__ : Stmt := inClass (top 30) 8
abbrev N_Book___iter__ : List Str := ["self"]
abbrev P_Book___iter__ : List Str := ["self"]
theorem sc_Book___iter__ : FnScope N_Book___iter__ P_Book___iter__ (defScope s_Book___iter__) := ⟨rfl, rfl, rfl, by decide +kernel, rfl, by decide +kernel, by decide +kernel⟩
abbrev s_Book___eq__ : Stmt := inClass (top 30) 12
abbrev N_Book___eq__ : List Str := ["self", "other"]
abbrev P_Book___eq__ : List Str := ["self", "other"]
theorem sc_Book___eq__ : FnScope N_Book___eq__ P_Book___eq__ (defScope s_Book___eq__) := ⟨rfl, rfl, rfl, by decide +kernel, rfl, by decide +kernel, by decide +kernel⟩
abbrev s_check_entries : Stmt := top 31
abbrev N_check_entries : List Str := ["rows", "name"]
abbrev P_check_entries : List Str := ["rows"]
theorem sc_check_entries : FnScope N_check_entries P_check_entries (defScope s_check_entries) := ⟨rfl, rfl, rfl, by decide +kernel, rfl, by decide +kernel, by decide +kernel⟩
abbrev s_is_entry : Stmt := top 32
abbrev N_is_entry : List Str := ["thing", "rows", "hook", "wait"]
abbrev P_is_entry : List Str := ["thing", "rows"]
theorem sc_is_entry : FnScope N_is_entry P_is_entry (defScope s_is_entry) := ⟨rfl, rfl, rfl, by decide +kernel, rfl, by decide +kernel, by decide +kernel⟩
abbrev s_is_wait : Stmt := top 33
abbrev N_is_wait : List Str := ["thing"]
abbrev P_is_wait : List Str := ["thing"]
theorem sc_is_wait : FnScope N_is_wait P_is_wait (defScope s_is_wait) := ⟨rfl, rfl, rfl, by decide +kernel, rfl, by decide +kernel, by decide +kernel⟩
abbrev s_check_waits : Stmt := top 34
abbrev N_check_waits : List Str := ["waits", "name"]
abbrev P_check_waits : List Str := ["waits"]
theorem sc_check_waits : FnScope N_check_waits P_check_waits (defScope s_check_waits) := ⟨rfl, rfl, rfl, by decide +kernel, rfl, by decide +kernel, by decide +kernel⟩
abbrev s_sum_ahead : Stmt := top 37
abbrev N_sum_ahead : List Str := ["hook", "sums"]
abbrev P_sum_ahead : List Str := ["hook", "sums"]
theorem sc_sum_ahead : FnScope N_sum_ahead P_sum_ahead (defScope s_sum_ahead) := ⟨rfl, rfl, rfl, by decide +kernel, rfl, by decide +kernel, by decide +kernel⟩
abbrev s__law_fresh : Stmt := top 39
abbrev N__law_fresh : List Str := ["_law_script"]
abbrev P__law_fresh : List Str := ["_law_script"]
theorem sc__law_fresh : FnScope N__law_fresh P__law_fresh (defScope s__law_fresh) := ⟨rfl, rfl, rfl, by decide +kernel, rfl, by decide +kernel, by decide +kernel⟩
abbrev s__law_take : Stmt := top 40
abbrev N__law_take : List Str := ["_law_state", "_law_many", "_law_cell", "_law_digit", "_law_mixed"]
abbrev P__law_take : List Str := ["_law_state", "_law_many"]
theorem sc__law_take : FnScope N__law_take P__law_take (defScope s__law_take) := ⟨rfl, rfl, rfl, by decide +kernel, rfl, by decide +kernel, by decide +kernel⟩
abbrev s__law_one : Stmt := top 41
abbrev N__law_one : List Str := ["_law_state", "_law_things"]
abbrev P__law_one : List Str := ["_law_state", "_law_things"]
theorem sc__law_one : FnScope N__law_one P__law_one (defScope s__law_one) := ⟨rfl, rfl, rfl, by decide +kernel, rfl, by decide +kernel, by decide +kernel⟩
abbrev s__law_mix : Stmt := top 42
abbrev N__law_mix : List Str := ["_law_state", "_law_things", "_law_left", "_law_found"]
abbrev P__law_mix : List Str := ["_law_state", "_law_things"]
theorem sc__law_mix : FnScope N__law_mix P__law_mix (defScope s__law_mix) := ⟨rfl, rfl, rfl, by decide +kernel, rfl, by decide +kernel, by decide +kernel⟩
abbrev s__law_some : Stmt := top 43
abbrev N__law_some : List Str := ["_law_state", "_law_things", "_law_thing"]
abbrev P__law_some : List Str := ["_law_state", "_law_things"]
theorem sc__law_some : FnScope N__law_some P__law_some (defScope s__law_some) := ⟨rfl, rfl, rfl, by decide +kernel, rfl, by decide +kernel, by decide +kernel⟩
abbrev s__law_same : Stmt := top 44
abbrev N__law_same : List Str := ["_law_found", "_law_due", "_law_x", "_law_y"]
abbrev P__law_same : List Str := ["_law_found", "_law_due"]
theorem sc__law_same : FnScope N__law_same P__law_same (defScope s__law_same) := ⟨rfl, rfl, rfl, by decide +kernel, rfl, by decide +kernel, by decide +kernel⟩
abbrev s__law_same_dict : Stmt := top 45
abbrev N__law_same_dict : List Str := ["_law_found", "_law_due", "_law_key"]
abbrev P__law_same_dict : List Str := ["_law_found", "_law_due"]
theorem sc__law_same_dict : FnScope N__law_same_dict P__law_same_dict (defScope s__law_same_dict) := ⟨rfl, rfl, rfl, by decide +kernel, rfl, by decide +kernel, by decide +kernel⟩
abbrev s__law_loose : Stmt := top 46
abbrev N__law_loose : List Str := ["_law_state", "_law_thing", "_law_found", "_law_x"]
abbrev P__law_loose : List Str := ["_law_state", "_law_thing"]
theorem sc__law_loose : FnScope N__law_loose P__law_loose (defScope s__law_loose) := ⟨rfl, rfl, rfl, by decide +kernel, rfl, by decide +kernel, by decide +kernel⟩
abbrev s__law_names : Stmt := top 47
abbrev N__law_names : List Str := ["_law_state", "_law_many", "_law_some_here"]
abbrev P__law_names : List Str := ["_law_state", "_law_many"]
theorem sc__law_names : FnScope N__law_names P__law_names (defScope s__law_names) := ⟨rfl, rfl, rfl, by decide +kernel, rfl, by decide +kernel, by decide +kernel⟩
abbrev s__law_rising : Stmt := top 48
abbrev N__law_rising : List Str := ["_law_things", "_law_found", "_law_thing", "_law_x"]
abbrev P__law_rising : List Str := ["_law_things"]
theorem sc__law_rising : FnScope N__law_rising P__law_rising (defScope s__law_rising) := ⟨rfl, rfl, rfl, by decide +kernel, rfl, by decide +kernel, by decide +kernel⟩
abbrev s__law_hung : Stmt := top 49
abbrev N__law_hung : List Str := ["_law_state", "_law_names_here", "_law_row", "_law_found", "_law_k", "_law_name"]
abbrev P__law_hung : List Str := ["_law_state", "_law_names_here"]
theorem sc__law_hung : FnScope N__law_hung P__law_hung (defScope s__law_hung) := ⟨rfl, rfl, rfl, by decide +kernel, rfl, by decide +kernel, by decide +kernel⟩
abbrev s__law_waiting : Stmt := top 50
abbrev N__law_waiting : List Str := ["_law_state", "_law_anchors", "_law_name"]
abbrev P__law_waiting : List Str := ["_law_state", "_law_anchors"]
theorem sc__law_waiting : FnScope N__law_waiting P__law_waiting (defScope s__law_waiting) := ⟨rfl, rfl, rfl, by decide +kernel, rfl, by decide +kernel, by decide +kernel⟩
abbrev s__law_with : Stmt := top 51
abbrev N__law_with : List Str := ["_law_things", "_law_name", "_law_thing", "_law_found"]
abbrev P__law_with : List Str := ["_law_things", "_law_name", "_law_thing"]
theorem sc__law_with : FnScope N__law_with P__law_with (defScope s__law_with) := ⟨rfl, rfl, rfl, by decide +kernel, rfl, by decide +kernel, by decide +kernel⟩
abbrev s__law_bend : Stmt := top 52
abbrev N__law_bend : List Str := ["_law_thing", "_law_part"]
abbrev P__law_bend : List Str := ["_law_thing"]
theorem sc__law_bend : FnScope N__law_bend P__law_bend (defScope s__law_bend) := ⟨rfl, rfl, rfl, by decide +kernel, rfl, by decide +kernel, by decide +kernel⟩
abbrev s__law_sum : Stmt := top 53
abbrev N__law_sum : List Str := ["_law_rows", "_law_name", "_law_found", "_law_here"]
abbrev P__law_sum : List Str := ["_law_rows", "_law_name"]
theorem sc__law_sum : FnScope N__law_sum P__law_sum (defScope s__law_sum) := ⟨rfl, rfl, rfl, by decide +kernel, rfl, by decide +kernel, by decide +kernel⟩
abbrev s__law_tried : Stmt := top 54
abbrev N__law_tried : List Str := ["_law_ask", "_law_found", "e"]
abbrev P__law_tried : List Str := ["_law_ask"]
theorem sc__law_tried : FnScope N__law_tried P__law_tried (defScope s__law_tried) := ⟨rfl, rfl, rfl, by decide +kernel, rfl, by decide +kernel, by decide +kernel⟩
abbrev s__law_tells : Stmt := top 55
abbrev N__law_tells : List Str := ["_law_book", "_law_rows", "_law_up", "_law_name", "_law_found"]
abbrev P__law_tells : List Str := ["_law_book", "_law_rows", "_law_up"]
theorem sc__law_tells : FnScope N__law_tells P__law_tells (defScope s__law_tells) := ⟨rfl, rfl, rfl, by decide +kernel, rfl, by decide +kernel, by decide +kernel⟩
abbrev s__law_refuses : Stmt := top 56
abbrev N__law_refuses : List Str := ["_law_book", "_law_odd", "_law_found"]
abbrev P__law_refuses : List Str := ["_law_book"]
theorem sc__law_refuses : FnScope N__law_refuses P__law_refuses (defScope s__law_refuses) := ⟨rfl, rfl, rfl, by decide +kernel, rfl, by decide +kernel, by decide +kernel⟩
abbrev s_law : Stmt := top 57
abbrev N_law : List Str := ["_law_script", "_law_state", "_law_turn", "_law_names_here", "_law_rows", "_law_name", "_law_given", "_law_up", "_law_book", "_law_told", "_law_pairs", "_law_sums", "_law_others", "_law_twin", "_law_x"]
abbrev P_law : List Str := ["_law_script"]
theorem sc_law : FnScope N_law P_law (defScope s_law) := ⟨rfl, rfl, rfl, by decide +kernel, rfl, by decide +kernel, by decide +kernel⟩
structure Ad where
  a_is_integer : Addr
  d_is_integer : FuncData
  a_is_list : Addr
  d_is_list : FuncData
  a_is_name : Addr
  d_is_name : FuncData
  a_is_dish : Addr
  d_is_dish : FuncData
  a_alike : Addr
  d_alike : FuncData
  a_copied : Addr
  d_copied : FuncData
  a_NoDish___init__ : Addr
  d_NoDish___init__ : FuncData
  a_check_dish : Addr
  d_check_dish : FuncData
  a_way_up : Addr
  d_way_up : FuncData
  a_Hanging___init__ : Addr
  d_Hanging___init__ : FuncData
  a_Hanging_rows : Addr
  d_Hanging_rows : FuncData
  a_Hanging___eq__ : Addr
  d_Hanging___eq__ : FuncData
  a_check_rows : Addr
  d_check_rows : FuncData
  a_is_hook : Addr
  d_is_hook : FuncData
  a_check_rounds : Addr
  d_check_rounds : FuncData
  a_round_from : Addr
  d_round_from : FuncData
  a_Book___init__ : Addr
  d_Book___init__ : FuncData
  a_Book_of : Addr
  d_Book_of : FuncData
  a_Book_rows : Addr
  d_Book_rows : FuncData
  a_Book_hanging : Addr
  d_Book_hanging : FuncData
  a_Book_wait : Addr
  d_Book_wait : FuncData
  a_Book_added : Addr
  d_Book_added : FuncData
  a_Book___getitem__ : Addr
  d_Book___getitem__ : FuncData
  a_Book___iter__ : Addr
  d_Book___iter__ : FuncData
  a_Book___eq__ : Addr
  d_Book___eq__ : FuncData
  a_check_entries : Addr
  d_check_entries : FuncData
  a_is_entry : Addr
  d_is_entry : FuncData
  a_is_wait : Addr
  d_is_wait : FuncData
  a_check_waits : Addr
  d_check_waits : FuncData
  a_sum_ahead : Addr
  d_sum_ahead : FuncData
  a__law_fresh : Addr
  d__law_fresh : FuncData
  a__law_take : Addr
  d__law_take : FuncData
  a__law_one : Addr
  d__law_one : FuncData
  a__law_mix : Addr
  d__law_mix : FuncData
  a__law_some : Addr
  d__law_some : FuncData
  a__law_same : Addr
  d__law_same : FuncData
  a__law_same_dict : Addr
  d__law_same_dict : FuncData
  a__law_loose : Addr
  d__law_loose : FuncData
  a__law_names : Addr
  d__law_names : FuncData
  a__law_rising : Addr
  d__law_rising : FuncData
  a__law_hung : Addr
  d__law_hung : FuncData
  a__law_waiting : Addr
  d__law_waiting : FuncData
  a__law_with : Addr
  d__law_with : FuncData
  a__law_bend : Addr
  d__law_bend : FuncData
  a__law_sum : Addr
  d__law_sum : FuncData
  a__law_tried : Addr
  d__law_tried : FuncData
  a__law_tells : Addr
  d__law_tells : FuncData
  a__law_refuses : Addr
  d__law_refuses : FuncData
  a_law : Addr
  d_law : FuncData
  a_Hanging : Addr
  a_Book : Addr
  a_NoDish : Addr
structure Txt (K : PySem.W.Frag) (mg : Str → Option Value) (A : Ad) : Prop where
  f_is_integer : Fun K "is_integer" "is_integer" s_is_integer A.a_is_integer A.d_is_integer
  g_is_integer : mg "is_integer" = some (.ref A.a_is_integer)
  b_is_integer : Binds K A.d_is_integer P_is_integer []
  f_is_list : Fun K "is_list" "is_list" s_is_list A.a_is_list A.d_is_list
  g_is_list : mg "is_list" = some (.ref A.a_is_list)
  b_is_list : Binds K A.d_is_list P_is_list []
  f_is_name : Fun K "is_name" "is_name" s_is_name A.a_is_name A.d_is_name
  g_is_name : mg "is_name" = some (.ref A.a_is_name)
  b_is_name : Binds K A.d_is_name P_is_name []
  f_is_dish : Fun K "is_dish" "is_dish" s_is_dish A.a_is_dish A.d_is_dish
  g_is_dish : mg "is_dish" = some (.ref A.a_is_dish)
  b_is_dish : Binds K A.d_is_dish P_is_dish []
  f_alike : Fun K "alike" "alike" s_alike A.a_alike A.d_alike
  g_alike : mg "alike" = some (.ref A.a_alike)
  b_alike : Binds K A.d_alike P_alike []
  f_copied : Fun K "copied" "copied" s_copied A.a_copied A.d_copied
  g_copied : mg "copied" = some (.ref A.a_copied)
  b_copied : Binds K A.d_copied P_copied []
  f_NoDish___init__ : Fun K "__init__" "NoDish.__init__" s_NoDish___init__ A.a_NoDish___init__ A.d_NoDish___init__
  b_NoDish___init__ : Binds K A.d_NoDish___init__ P_NoDish___init__ []
  f_check_dish : Fun K "check_dish" "check_dish" s_check_dish A.a_check_dish A.d_check_dish
  g_check_dish : mg "check_dish" = some (.ref A.a_check_dish)
  b_check_dish : Binds K A.d_check_dish P_check_dish []
  f_way_up : Fun K "way_up" "way_up" s_way_up A.a_way_up A.d_way_up
  g_way_up : mg "way_up" = some (.ref A.a_way_up)
  b_way_up : Binds K A.d_way_up P_way_up []
  f_Hanging___init__ : Fun K "__init__" "Hanging.__init__" s_Hanging___init__ A.a_Hanging___init__ A.d_Hanging___init__
  b_Hanging___init__ : Binds K A.d_Hanging___init__ P_Hanging___init__ []
  f_Hanging_rows : Fun K "rows" "Hanging.rows" s_Hanging_rows A.a_Hanging_rows A.d_Hanging_rows
  b_Hanging_rows : Binds K A.d_Hanging_rows P_Hanging_rows []
  f_Hanging___eq__ : Fun K "__eq__" "Hanging.__eq__" s_Hanging___eq__ A.a_Hanging___eq__ A.d_Hanging___eq__
  b_Hanging___eq__ : Binds K A.d_Hanging___eq__ P_Hanging___eq__ []
  f_check_rows : Fun K "check_rows" "check_rows" s_check_rows A.a_check_rows A.d_check_rows
  g_check_rows : mg "check_rows" = some (.ref A.a_check_rows)
  b_check_rows : Binds K A.d_check_rows P_check_rows []
  f_is_hook : Fun K "is_hook" "is_hook" s_is_hook A.a_is_hook A.d_is_hook
  g_is_hook : mg "is_hook" = some (.ref A.a_is_hook)
  b_is_hook : Binds K A.d_is_hook P_is_hook []
  f_check_rounds : Fun K "check_rounds" "check_rounds" s_check_rounds A.a_check_rounds A.d_check_rounds
  g_check_rounds : mg "check_rounds" = some (.ref A.a_check_rounds)
  b_check_rounds : Binds K A.d_check_rounds P_check_rounds []
  f_round_from : Fun K "round_from" "round_from" s_round_from A.a_round_from A.d_round_from
  g_round_from : mg "round_from" = some (.ref A.a_round_from)
  b_round_from : Binds K A.d_round_from P_round_from []
  f_Book___init__ : Fun K "__init__" "Book.__init__" s_Book___init__ A.a_Book___init__ A.d_Book___init__
  b_Book___init__ : Binds K A.d_Book___init__ P_Book___init__ []
  f_Book_of : Fun K "of" "Book.of" s_Book_of A.a_Book_of A.d_Book_of
  b_Book_of : Binds K A.d_Book_of P_Book_of []
  f_Book_rows : Fun K "rows" "Book.rows" s_Book_rows A.a_Book_rows A.d_Book_rows
  b_Book_rows : Binds K A.d_Book_rows P_Book_rows []
  f_Book_hanging : Fun K "hanging" "Book.hanging" s_Book_hanging A.a_Book_hanging A.d_Book_hanging
  b_Book_hanging : Binds K A.d_Book_hanging P_Book_hanging []
  f_Book_wait : Fun K "wait" "Book.wait" s_Book_wait A.a_Book_wait A.d_Book_wait
  b_Book_wait : Binds K A.d_Book_wait P_Book_wait []
  f_Book_added : Fun K "added" "Book.added" s_Book_added A.a_Book_added A.d_Book_added
  b_Book_added : Binds K A.d_Book_added P_Book_added []
  f_Book___getitem__ : Fun K "__getitem__" "Book.__getitem__" s_Book___getitem__ A.a_Book___getitem__ A.d_Book___getitem__
  b_Book___getitem__ : Binds K A.d_Book___getitem__ P_Book___getitem__ []
  f_Book___iter__ : Fun K "__iter__" "Book.__iter__" s_Book___iter__ A.a_Book___iter__ A.d_Book___iter__
  b_Book___iter__ : Binds K A.d_Book___iter__ P_Book___iter__ []
  f_Book___eq__ : Fun K "__eq__" "Book.__eq__" s_Book___eq__ A.a_Book___eq__ A.d_Book___eq__
  b_Book___eq__ : Binds K A.d_Book___eq__ P_Book___eq__ []
  f_check_entries : Fun K "check_entries" "check_entries" s_check_entries A.a_check_entries A.d_check_entries
  g_check_entries : mg "check_entries" = some (.ref A.a_check_entries)
  b_check_entries : Binds K A.d_check_entries P_check_entries []
  f_is_entry : Fun K "is_entry" "is_entry" s_is_entry A.a_is_entry A.d_is_entry
  g_is_entry : mg "is_entry" = some (.ref A.a_is_entry)
  b_is_entry : Binds K A.d_is_entry P_is_entry []
  f_is_wait : Fun K "is_wait" "is_wait" s_is_wait A.a_is_wait A.d_is_wait
  g_is_wait : mg "is_wait" = some (.ref A.a_is_wait)
  b_is_wait : Binds K A.d_is_wait P_is_wait []
  f_check_waits : Fun K "check_waits" "check_waits" s_check_waits A.a_check_waits A.d_check_waits
  g_check_waits : mg "check_waits" = some (.ref A.a_check_waits)
  b_check_waits : Binds K A.d_check_waits P_check_waits []
  f_sum_ahead : Fun K "sum_ahead" "sum_ahead" s_sum_ahead A.a_sum_ahead A.d_sum_ahead
  g_sum_ahead : mg "sum_ahead" = some (.ref A.a_sum_ahead)
  b_sum_ahead : Binds K A.d_sum_ahead P_sum_ahead []
  f__law_fresh : Fun K "_law_fresh" "_law_fresh" s__law_fresh A.a__law_fresh A.d__law_fresh
  g__law_fresh : mg "_law_fresh" = some (.ref A.a__law_fresh)
  b__law_fresh : Binds K A.d__law_fresh P__law_fresh []
  f__law_take : Fun K "_law_take" "_law_take" s__law_take A.a__law_take A.d__law_take
  g__law_take : mg "_law_take" = some (.ref A.a__law_take)
  b__law_take : Binds K A.d__law_take P__law_take []
  f__law_one : Fun K "_law_one" "_law_one" s__law_one A.a__law_one A.d__law_one
  g__law_one : mg "_law_one" = some (.ref A.a__law_one)
  b__law_one : Binds K A.d__law_one P__law_one []
  f__law_mix : Fun K "_law_mix" "_law_mix" s__law_mix A.a__law_mix A.d__law_mix
  g__law_mix : mg "_law_mix" = some (.ref A.a__law_mix)
  b__law_mix : Binds K A.d__law_mix P__law_mix []
  f__law_some : Fun K "_law_some" "_law_some" s__law_some A.a__law_some A.d__law_some
  g__law_some : mg "_law_some" = some (.ref A.a__law_some)
  b__law_some : Binds K A.d__law_some P__law_some []
  f__law_same : Fun K "_law_same" "_law_same" s__law_same A.a__law_same A.d__law_same
  g__law_same : mg "_law_same" = some (.ref A.a__law_same)
  b__law_same : Binds K A.d__law_same P__law_same []
  f__law_same_dict : Fun K "_law_same_dict" "_law_same_dict" s__law_same_dict A.a__law_same_dict A.d__law_same_dict
  g__law_same_dict : mg "_law_same_dict" = some (.ref A.a__law_same_dict)
  b__law_same_dict : Binds K A.d__law_same_dict P__law_same_dict []
  f__law_loose : Fun K "_law_loose" "_law_loose" s__law_loose A.a__law_loose A.d__law_loose
  g__law_loose : mg "_law_loose" = some (.ref A.a__law_loose)
  b__law_loose : Binds K A.d__law_loose P__law_loose []
  f__law_names : Fun K "_law_names" "_law_names" s__law_names A.a__law_names A.d__law_names
  g__law_names : mg "_law_names" = some (.ref A.a__law_names)
  b__law_names : Binds K A.d__law_names P__law_names []
  f__law_rising : Fun K "_law_rising" "_law_rising" s__law_rising A.a__law_rising A.d__law_rising
  g__law_rising : mg "_law_rising" = some (.ref A.a__law_rising)
  b__law_rising : Binds K A.d__law_rising P__law_rising []
  f__law_hung : Fun K "_law_hung" "_law_hung" s__law_hung A.a__law_hung A.d__law_hung
  g__law_hung : mg "_law_hung" = some (.ref A.a__law_hung)
  b__law_hung : Binds K A.d__law_hung P__law_hung []
  f__law_waiting : Fun K "_law_waiting" "_law_waiting" s__law_waiting A.a__law_waiting A.d__law_waiting
  g__law_waiting : mg "_law_waiting" = some (.ref A.a__law_waiting)
  b__law_waiting : Binds K A.d__law_waiting P__law_waiting []
  f__law_with : Fun K "_law_with" "_law_with" s__law_with A.a__law_with A.d__law_with
  g__law_with : mg "_law_with" = some (.ref A.a__law_with)
  b__law_with : Binds K A.d__law_with P__law_with []
  f__law_bend : Fun K "_law_bend" "_law_bend" s__law_bend A.a__law_bend A.d__law_bend
  g__law_bend : mg "_law_bend" = some (.ref A.a__law_bend)
  b__law_bend : Binds K A.d__law_bend P__law_bend []
  f__law_sum : Fun K "_law_sum" "_law_sum" s__law_sum A.a__law_sum A.d__law_sum
  g__law_sum : mg "_law_sum" = some (.ref A.a__law_sum)
  b__law_sum : Binds K A.d__law_sum P__law_sum []
  f__law_tried : Fun K "_law_tried" "_law_tried" s__law_tried A.a__law_tried A.d__law_tried
  g__law_tried : mg "_law_tried" = some (.ref A.a__law_tried)
  b__law_tried : Binds K A.d__law_tried P__law_tried []
  f__law_tells : Fun K "_law_tells" "_law_tells" s__law_tells A.a__law_tells A.d__law_tells
  g__law_tells : mg "_law_tells" = some (.ref A.a__law_tells)
  b__law_tells : Binds K A.d__law_tells P__law_tells []
  f__law_refuses : Fun K "_law_refuses" "_law_refuses" s__law_refuses A.a__law_refuses A.d__law_refuses
  g__law_refuses : mg "_law_refuses" = some (.ref A.a__law_refuses)
  b__law_refuses : Binds K A.d__law_refuses P__law_refuses []
  f_law : Fun K "law" "law" s_law A.a_law A.d_law
  g_law : mg "law" = some (.ref A.a_law)
  b_law : Binds K A.d_law P_law []
  g_CLOCK : ∃ t, mg "CLOCK" = some (.str "clock" t)
  g_LETTERS : ∃ t, mg "LETTERS" = some (.str "abcdefghijklmnopqrstuvwxyz" t)
  g_LONGEST_NAME : ∃ t, mg "LONGEST_NAME" = some (.int 8 t)
  len : mg "len" = none
  abs : mg "abs" = none
  int : mg "int" = none
  list : mg "list" = none
  tuple : mg "tuple" = none
  bool : mg "bool" = none
  str : mg "str" = none
  dict : mg "dict" = none
  isinstance : mg "isinstance" = none
  all : mg "all" = none
  any : mg "any" = none
  zip : mg "zip" = none
  enumerate : mg "enumerate" = none
  range : mg "range" = none
  sorted : mg "sorted" = none
  sum : mg "sum" = none
  iter : mg "iter" = none
  g_Hanging : mg "Hanging" = some (.ref A.a_Hanging)
  cl : Cls K A.a_Hanging
  nH : NoAttr K A.a_Hanging "hooks"
  mkH : Mk K A.a_Hanging A.a_Hanging___init__
  m_rows : Meth K A.a_Hanging "rows" A.a_Hanging_rows
  aC : PySem.W.findIn K (.ref A.a_Hanging) "__class__" = some (some (.builtin "object.__class__"))
  aG : PySem.W.specialIn K (.builtin "object.__class__") "__get__" = some (some (.builtin "getset_descriptor.__get__"))
  aT : PySem.W.takesIn K (.builtin "object.__class__") = some true
  aCB : PySem.W.findIn K (.ref A.a_Book) "__class__" = some (some (.builtin "object.__class__"))
  nfH : PySem.W.notFirst K A.a_Hanging (.ref A.a_Hanging) = true
  nfB : PySem.W.notFirst K A.a_Book (.ref A.a_Book) = true
  kHH : PySem.W.kitOne K (.ref A.a_Hanging) (.ref A.a_Hanging) = some true
  kBB : PySem.W.kitOne K (.ref A.a_Book) (.ref A.a_Book) = some true
  m_eq : Meth K A.a_Hanging "__eq__" A.a_Hanging___eq__
  m_eqB : Meth K A.a_Book "__eq__" A.a_Book___eq__
  nEB : PySem.W.findIn K (.ref A.a_Book) "__ne__" = some (some (.builtin "object.__ne__"))
  mO : PySem.W.mroIn K A.a_Hanging (.type "object") = some true
  mOB : PySem.W.mroIn K A.a_Book (.type "object") = some true
  g_Book : mg "Book" = some (.ref A.a_Book)
  cl_B : Cls K A.a_Book
  nBH : NoAttr K A.a_Book "hooks"
  nBW : NoAttr K A.a_Book "waits"
  mkB : Mk K A.a_Book A.a_Book___init__
  m_hanging : Meth K A.a_Book "hanging" A.a_Book_hanging
  m_added : Meth K A.a_Book "added" A.a_Book_added
  m_rowsB : Meth K A.a_Book "rows" A.a_Book_rows
  stO : Own.StaM K A.a_Book "of" A.a_Book_of
  m_wait : Meth K A.a_Book "wait" A.a_Book_wait
  m_iterB : PySem.W.findIn K (.ref A.a_Book) "__iter__" = some (some (.ref A.a_Book___iter__)) ∧ PySem.W.isFn K (.ref A.a_Book___iter__) = true
  nLenB : PySem.W.findIn K (.ref A.a_Book) "__len__" = some none
  nHintB : PySem.W.findIn K (.ref A.a_Book) "__length_hint__" = some none
  m_itm : PySem.W.findIn K (.ref A.a_Book) "__getitem__" = some (some (.ref A.a_Book___getitem__)) ∧ PySem.W.fnIn K A.a_Book___getitem__ = true ∧ PySem.W.isFn K (.ref A.a_Book___getitem__) = true
  nfBN : PySem.W.notFirst K A.a_Book (.type "NoneType") = true
  nfBD : PySem.W.notFirst K A.a_Book (.type "dict") = true
  kBN : PySem.W.kitOne K (.type "NoneType") (.ref A.a_Book) = some false
  kBD : PySem.W.kitOne K (.type "dict") (.ref A.a_Book) = some false
  sBN : PySem.W.subIn K (.ref A.a_Book) (.type "NoneType") = some false
  sBD : PySem.W.subIn K (.ref A.a_Book) (.type "dict") = some false
  xN : OexC K A.a_NoDish
  nN : PySem.W.findIn K (.ref A.a_NoDish) "name" = some none
  iN : PySem.W.findIn K (.ref A.a_NoDish) "__init__" = some (some (.ref A.a_NoDish___init__))
  tN : PySem.W.typeIn K (.ref A.a_NoDish___init__) = some (.type "function")
  g_NoDish : mg "NoDish" = some (.ref A.a_NoDish)
  xfN : XfC K A.a_NoDish
  eN : PySem.W.exmOne K (.ref A.a_NoDish) (.ref A.a_NoDish) = some true

/-! ### the state of draws -/
def er (H : Hp) (st : Addr) : Hp := fun b => if b = st then none else H b
theorem er_ne {H : Hp} {st b : Addr} (h : b ≠ st) : er H st b = H b := if_neg h
theorem er_some {H : Hp} {st b : Addr} {o : HO} (h : er H st b = some o) : b ≠ st ∧ H b = some o := by
  by_cases e : b = st
  · rw [e] at h
    rw [show er H st st = none from if_pos rfl] at h
    cases h
  · exact ⟨e, (er_ne e).symm.trans h⟩
theorem er_same (H : Hp) (st : Addr) : Same (er H st) H := fun _ _ h => (er_some h).2
theorem er_upd (H : Hp) (st : Addr) (o : HO) : er (upd H st o) st = er H st := by
  funext b
  by_cases e : b = st
  · rw [e]; exact (if_pos rfl).trans (if_pos rfl).symm
  · rw [er_ne e, er_ne e, upd_ne e]
theorem er_of {H : Hp} {st b : Addr} {o : HO} (h : b ≠ st) (e : H b = some o) : er H st b = some o := (er_ne h).trans e
theorem er_mono {H H' : Hp} {st : Addr} (s : Same H H') : Same (er H st) (er H' st) := fun b o h =>
  er_of (er_some h).1 (s _ _ (er_some h).2)
def five (c : Addr) (i l m n : Int) : HO := .lst [.ref c, .int i, .int l, .int m, .int n]
structure Sta (H : Hp) (st c : Addr) (b : Int) : Prop where
  ex : ∃ (cs : List Int) (i : Nat) (l m n : Int), H st = some (five c (i : Int) l m n) ∧ er H st c = some (.lst (cs.map V.int)) ∧ i ≤ cs.length ∧ 0 ≤ l ∧ 0 ≤ m ∧ m < 2147483647 ∧ 0 ≤ n ∧ n ≤ b ∧ b ≤ 1000000
theorem Sta.same {H H' : Hp} {st c : Addr} {b : Int} (h : Sta H st c b) (s : Same H H') : Sta H' st c b := by
  obtain ⟨cs, i, l, m, n, h1, h2, h3⟩ := h.ex
  exact ⟨cs, i, l, m, n, s _ _ h1, er_mono s _ _ h2, h3⟩
theorem Sta.le {H : Hp} {st c : Addr} {b b' : Int} (h : Sta H st c b) (hb : b ≤ b') (h9 : b' ≤ 1000000) : Sta H st c b' := by
  obtain ⟨cs, i, l, m, n, h1, h2, h3, h4, h5, h6, h7, h8, _⟩ := h.ex
  exact ⟨cs, i, l, m, n, h1, h2, h3, h4, h5, h6, h7, by omega, h9⟩
theorem Sta.ne {H : Hp} {st c p : Addr} {b : Int} (h : Sta H st c b) (hp : H p = none) : p ≠ st := by
  obtain ⟨cs, i, l, m, n, h1, _⟩ := h.ex
  exact fun e => by rw [e, h1] at hp; cases hp
theorem Sta.nec {H : Hp} {st c p : Addr} {b : Int} (h : Sta H st c b) (hp : er H st p = none) : c ≠ p := by
  obtain ⟨cs, i, l, m, n, _, h1, _⟩ := h.ex
  exact ne_of_none h1 hp
theorem Same.new {H : Hp} {p : Addr} {o : HO} (hp : H p = none) : Same H (upd H p o) := fun b u e => by
  rw [upd_ne (ne_of_none e hp)]; exact e
theorem sqUp {K : PySem.W.Frag} {H H' : Hp} {a : Addr} {xs : List V} (h : SqL K H a xs) (s : Same H H') : SqL K H' a xs := s.seq h
theorem sqEr {K : PySem.W.Frag} {H : Hp} {st a : Addr} {xs : List V} (h : SqL K (er H st) a xs) : SqL K H a xs := (er_same H st).seq h
theorem er_updp {H : Hp} {st p : Addr} {o : HO} (hp : p ≠ st) : er (upd H p o) st = upd (er H st) p o := by
  funext b
  by_cases e : b = st
  · rw [e, upd_ne (fun z => hp z.symm)]; exact (if_pos rfl).trans (if_pos rfl).symm
  · by_cases e2 : b = p
    · rw [e2, upd_same, er_ne hp, upd_same]
    · rw [upd_ne e2, er_ne e, er_ne e, upd_ne e2]
theorem er_none {H : Hp} {st p : Addr} (h : H p = none) : er H st p = none := by
  by_cases e : p = st
  · exact if_pos e
  · exact (er_ne e).trans h
/-- what a helper that draws leaves: the state, and all that stood beside it -/
structure Gs (st c : Addr) (H H' : Hp) (b : Int) : Prop where
  sta : Sta H' st c b
  same : Same (er H st) (er H' st)
theorem Gs.trans {st c : Addr} {H H1 H2 : Hp} {b b' : Int} (g : Gs st c H H1 b) (g' : Gs st c H1 H2 b') : Gs st c H H2 b' := ⟨g'.sta, g.same.trans g'.same⟩
theorem Gs.refl {st c : Addr} {H : Hp} {b : Int} (h : Sta H st c b) : Gs st c H H b := ⟨h, Same.refl _⟩
theorem Gs.of_upd {st c : Addr} {H : Hp} {o : HO} {b : Int} (h : Sta (upd H st o) st c b) : Gs st c H (upd H st o) b := ⟨h, by rw [er_upd]; exact Same.refl _⟩
theorem Gs.of_same {st c : Addr} {H H' : Hp} {b : Int} (h : Sta H st c b) (s : Same H H') : Gs st c H H' b := ⟨h.same s, er_mono s⟩
theorem Gs.le {st c : Addr} {H H' : Hp} {b b' : Int} (g : Gs st c H H' b) (hb : b ≤ b') (h9 : b' ≤ 1000000) : Gs st c H H' b' := ⟨g.sta.le hb h9, g.same⟩
/-- a thing of the helper's own changes -/
theorem Gs.set {st c p : Addr} {H H' : Hp} {b : Int} {o : HO} (g : Gs st c H H' b) (hc : er H st c ≠ none) (hp : er H st p = none) (hs : p ≠ st) : Gs st c H (upd H' p o) b := by
  refine ⟨?_, fun b u e => ?_⟩
  · obtain ⟨cs, i, l, m, n, h1, h2, h3⟩ := g.sta.ex
    refine ⟨cs, i, l, m, n, by rw [upd_ne (fun z => hs z.symm)]; exact h1, ?_, h3⟩
    rw [er_updp hs, upd_ne (fun z => hc (by rw [z]; exact hp))]
    exact h2
  · rw [er_updp hs, upd_ne (ne_of_none e hp)]
    exact g.same _ _ e
theorem Gs.new {st c p : Addr} {H H' : Hp} {b : Int} {o : HO} (g : Gs st c H H' b) (hp : H' p = none) : Gs st c H (upd H' p o) b :=
  g.trans (Gs.of_same g.sta (Same.new hp))
theorem Sta.hc {H : Hp} {st c : Addr} {b : Int} (h : Sta H st c b) : er H st c ≠ none := by
  obtain ⟨cs, i, l, m, n, _, h1, _⟩ := h.ex
  rw [h1]
  exact fun z => by cases z

theorem while_ex {c : TT} {tb : TS} {D : Ends} {σ : St} {H : Hp} (W : Nat → St → Hp → Prop) (Ex : St → Hp → Prop) {m : Nat} (h0 : W m σ H)
    (hs : ∀ nx : St → Hp → Prop, (∀ σ H, Ex σ H → nx σ H) → ∀ m σ H, W m σ H → c σ H fun b H1 => if b = true then ∃ N : St → Hp → Prop, (∀ σ' H', N σ' H' → ∃ m', m' < m ∧ W m' σ' H') ∧ tb { D with nx := N, ct := N, bk := nx } σ H1 else nx σ H1)
    (hd : ∀ σ H, Ex σ H → D.nx σ H) : tWhile c tb D σ H := ⟨W, ⟨m, h0⟩, hs D.nx hd⟩
theorem cast_heap {F : Hp → Prop} {a b : Hp} (e : a = b) (h : F b) : F a := e ▸ h

def spTake : Sp := fun vs H Q _ => ∃ (st c : Addr) (many b : Int), vs = [.ref st, .int many] ∧ Sta H st c b ∧ b + 1 ≤ 1000000 ∧ 0 < many ∧ many < 1073741824 ∧
  ∀ (r : Int) (o : HO), 0 ≤ r → r < many → Sta (upd H st o) st c (b + 1) → Q (.int r) (upd H st o)

local macro_rules | `(tactic| walk_at "rd1") => `(tactic| first
  | refine ⟨_, _, rfl, rfl, ?_⟩
  | refine ⟨_, _, _, _, rfl, rfl, SqL.of (by assumption), rfl, ?_⟩
  | refine ⟨_, _, _, _, rfl, rfl, (by assumption), rfl, ?_⟩
  | refine .inl ⟨_, rfl, ?_⟩
  | refine ⟨_, rfl, ?_⟩
  | refine ⟨(by unfold CMul; omega), ?_⟩
  | refine ⟨(by unfold CPow; omega), ?_⟩
  | refine ⟨(by (try dsimp only); omega), ?_⟩
  | refine ⟨(by unfold CDiv; omega), ?_⟩
  | fail "rd1")
local macro_rules | `(tactic| walk_at "rd") => `(tactic| repeat' (walk_at "rd1"))
def spFresh (K : PySem.W.Frag) : Sp := fun vs H Q _ => ∃ (a : Addr) (ns : List Int), vs = [.ref a] ∧ SqL K H a (ns.map V.int) ∧
  ∀ (st c : Addr) (H' : Hp), Same H (er H' st) → Sta H' st c 0 → Q (.ref st) H'
def spOne (K : PySem.W.Frag) : Sp := fun vs H Q _ => ∃ (st c t : Addr) (xs : List V) (b : Int), vs = [.ref st, .ref t] ∧ Sta H st c b ∧ b + 1 ≤ 1000000 ∧ SqL K (er H st) t xs ∧ 0 < xs.length ∧ xs.length < 1073741824 ∧
  ∀ (i : Nat) (v : V) (H' : Hp), xs[i]? = some v → Gs st c H H' (b + 1) → Q v H'
def spMix (K : PySem.W.Frag) : Sp := fun vs H Q _ => ∃ (st c t : Addr) (ss : List Str) (b : Int), vs = [.ref st, .ref t] ∧ Sta H st c b ∧ b + 64 ≤ 1000000 ∧ SqL K (er H st) t (ss.map V.str) ∧ ss.length ≤ 64 ∧ (∀ s ∈ ss, PyData.strOk s = true) ∧
  ∀ (p : Addr) (ys : List Str) (H' : Hp), ys.Perm ss → Gs st c H H' (b + 64) → er H' st p = some (.lst (ys.map V.str)) → er H st p = none → Q (.ref p) H'
def spSome (K : PySem.W.Frag) : Sp := fun vs H Q _ => ∃ (st c t : Addr) (ss : List Str) (b : Int), vs = [.ref st, .ref t] ∧ Sta H st c b ∧ b + 64 ≤ 1000000 ∧ SqL K (er H st) t (ss.map V.str) ∧ ss.length ≤ 64 ∧
  ∀ (p : Addr) (ys : List Str) (H' : Hp), ys.Sublist ss → Gs st c H H' (b + 64) → er H' st p = some (.lst (ys.map V.str)) → er H st p = none → Q (.ref p) H'
section
variable {P : Program} {w : World} {K : PySem.W.Frag} {mg : Str → Option Value} {base : Heap} {A : Ad}
theorem ok_take (T : Txt K mg A) : FnOk P w K mg base CX0 1 A.a__law_take A.d__law_take P__law_take spTake := by
  refine T.f__law_take.ok sc__law_take (fun vs H Q E h => ?_) (fun cdv A' outer s H vs Q E hr h => ?_)
  · obtain ⟨st, c, many, b, rfl, _⟩ := h
    rfl
  · obtain ⟨st, c, many, b, rfl, S, hb1, hm0, hm1, k⟩ := h
    obtain ⟨cs, i, l, m, n, h1, h2, h3, h4, h5, h6, h7, h8, h9⟩ := S.ex
    refine ⟨_, (pss_cons (ps_asg (pe_op op_add (pe_ix ix_list (pv 0) pe_int (fun _ _ => rfl)) pe_int) (pg_sub (pv 0) pe_int set_list))
 (pss_cons (ps_while PassesOwn.never (PW.pt (pw_and (pt_cmpR op_eq (pe_ix ix_list (pv 0) pe_int (fun _ _ => rfl)) pe_int (nomark _)) (pw_and1 (pt_cmpR op_lt (pe_ix ix_list (pv 0) pe_int (fun _ _ => rfl)) (pe_callB call_len_seq (by rfl) T.len PySem.boot_len (pa_cons (pe_ix ix_list (pv 0) pe_int (fun _ _ => rfl)) pa_nil)) (nomark _)))))
 (pss_cons (ps_set (i := 2) sc__law_take.nd rfl (Or.inl rfl) (pe_callB call_abs (by rfl) T.abs (by decide +kernel) (pa_cons (pe_ix ix_list (pe_ix ix_list (pv 0) pe_int (fun _ _ => rfl)) (pe_ix ix_list (pv 0) pe_int (fun _ _ => rfl)) (fun _ _ => rfl)) pa_nil)))
 (pss_cons (ps_asg (pe_op op_add (pe_ix ix_list (pv 0) pe_int (fun _ _ => rfl)) pe_int) (pg_sub (pv 0) pe_int set_list))
 (pss_one (ps_if (pt_cmpR op_ge (pv 2) (pe_op op_pow pe_int pe_int) (nomark _))
 (pss_one (ps_asg (pv 2) (pg_sub (pv 0) pe_int set_list)))
 (pss_one (ps_asg (pe_op op_mod (pe_callTy call_int1 (by rfl) T.int (by decide +kernel) (pa_cons (pe_op op_add (pe_op op_add (pe_op op_mul (pe_ix ix_list (pv 0) pe_int (fun _ _ => rfl)) pe_int) (pv 2)) pe_int) pa_nil)) pe_int) (pg_sub (pv 0) pe_int set_list))))))))
 (pss_cons (ps_if (pt_cmpR op_gt (pe_ix ix_list (pv 0) pe_int (fun _ _ => rfl)) pe_int (nomark _))
 (pss_cons (ps_set (i := 3) sc__law_take.nd rfl (Or.inl rfl) (pe_op op_mod (pe_callTy call_int1 (by rfl) T.int (by decide +kernel) (pa_cons (pe_ix ix_list (pv 0) pe_int (fun _ _ => rfl)) pa_nil)) (pv 1)))
 (pss_cons (ps_asg (pe_op op_fdiv (pe_ix ix_list (pv 0) pe_int (fun _ _ => rfl)) (pv 1)) (pg_sub (pv 0) pe_int set_list))
 (pss_one (ps_ret (pv 3)))))
 pss_nil)
 (pss_cons (ps_set (i := 4) sc__law_take.nd rfl (Or.inl rfl) (pe_op op_mod (pe_callTy call_int1 (by rfl) T.int (by decide +kernel) (pa_cons (pe_op op_pow (pe_op op_add (pe_op op_add (pe_ix ix_list (pv 0) pe_int (fun _ _ => rfl)) (pe_op op_mul pe_int (pe_ix ix_list (pv 0) pe_int (fun _ _ => rfl)))) pe_int) pe_int) pa_nil)) pe_int))
 (pss_cons (ps_set (i := 4) sc__law_take.nd rfl (Or.inl rfl) (pe_op op_mod (pe_callTy call_int1 (by rfl) T.int (by decide +kernel) (pa_cons (pe_op op_pow (pe_op op_add (pv 4) (pe_op op_mul pe_int (pe_ix ix_list (pv 0) pe_int (fun _ _ => rfl)))) pe_int) pa_nil)) pe_int))
 (pss_one (ps_ret (pe_op op_mod (pe_callTy call_int1 (by rfl) T.int (by decide +kernel) (pa_cons (pe_op op_fdiv (pv 4) pe_int) pa_nil)) (pv 1))))))))), ?_⟩
    -- state[4] = state[4] + 1
    refine ⟨_, rfl, _, _, _, _, rfl, rfl, SqL.of h1, rfl, _, _, rfl, rfl, _, rfl, _, _, _, _, rfl, rfl, h1, rfl, ?_⟩
    refine while_ex (fun mm σ' H' => ∃ (i : Nat) (l m : Int) (v : Option V), σ' = [some (.ref st), some (.int many), v, none, none] ∧ H' = upd H st (five c (i : Int) l m (n + 1)) ∧ i ≤ cs.length ∧ 0 ≤ l ∧ 0 ≤ m ∧ m < 2147483647 ∧ mm = cs.length - i)
      (fun σ' H' => ∃ (i : Nat) (l m : Int) (v : Option V), σ' = [some (.ref st), some (.int many), v, none, none] ∧ H' = upd H st (five c (i : Int) l m (n + 1)) ∧ i ≤ cs.length ∧ 0 ≤ l ∧ 0 ≤ m ∧ m < 2147483647)
      ⟨i, l, m, none, rfl, rfl, h3, h4, h5, h6, rfl⟩ (fun nx hnx => ?_) ?_
    rintro mm σ' H' ⟨i, l, m, v, rfl, rfl, h3, h4, h5, h6, rfl⟩
    have hu : upd H st (five c (i : Int) l m (n + 1)) st = some (five c (i : Int) l m (n + 1)) := upd_same
    have hc : SqL K (upd H st (five c (i : Int) l m (n + 1))) c (cs.map V.int) := SqL.of ((er_same _ st) _ _ (by rw [er_upd]; exact h2))
    -- the test
    refine ⟨_, rfl, _, _, _, _, rfl, rfl, SqL.of hu, rfl, rfl, _, rfl, ?_⟩
    refine ite2 (fun hl => ?_) (fun hl => ?_)
    · have el : l = 0 := by
        have q := of_decide_eq_true hl
        cases q
        rfl
      subst el
      refine ⟨_, rfl, _, _, _, _, rfl, rfl, SqL.of hu, rfl, _, rfl, _, _, _, _, rfl, rfl, SqL.of hu, rfl, _, _, rfl, .inl hc, _, _, rfl, rfl, _, rfl, ?_⟩
      refine ite2 (fun hi => ?_) (fun hi => ?_)
      · have hi' : i < cs.length := by
          have q := of_decide_eq_true hi
          rw [List.length_map] at q
          omega
        refine ⟨_, fun _ _ z => z, ?_⟩
        -- cell = abs(state[0][state[1]]); state[1] = state[1] + 1
        refine ⟨_, rfl, _, _, _, _, rfl, rfl, SqL.of hu, rfl, _, rfl, _, _, _, _, rfl, rfl, SqL.of hu, rfl, _, _, _, _, rfl, rfl, hc, atI_nat (by rw [List.getElem?_map, List.getElem?_eq_getElem hi']; rfl), _, rfl, ?_⟩
        refine ⟨_, rfl, _, _, _, _, rfl, rfl, SqL.of hu, rfl, _, _, rfl, rfl, _, rfl, _, _, _, _, rfl, rfl, hu, rfl, ?_⟩
        have e2 : upd (upd H st (five c (i : Int) 0 m (n + 1))) st (five c ((i : Int) + 1) 0 m (n + 1)) = upd H st (five c (((i + 1 : Nat)) : Int) 0 m (n + 1)) := upd_upd
        refine cast_heap e2 ?_
        have hu2 : upd H st (five c (((i + 1 : Nat)) : Int) 0 m (n + 1)) st = some (five c (((i + 1 : Nat)) : Int) 0 m (n + 1)) := upd_same
        generalize hcell : (if cs[i] < 0 then -cs[i] else cs[i]) = cell
        have hc0 : 0 ≤ cell := by
          rw [← hcell]
          split <;> omega
        -- if cell >= 10 ** 18
        refine ⟨_, rfl, _, _, rfl, rfl, ⟨by decide, by decide, by decide⟩, _, _, rfl, rfl, _, rfl, ?_⟩
        refine ite2 (fun hg => ?_) (fun hg => ?_)
        · refine ⟨_, rfl, _, rfl, _, _, _, _, rfl, rfl, hu2, rfl, ?_⟩
          exact ⟨cs.length - (i + 1), by omega, i + 1, cell, m, _, rfl, upd_upd, hi', hc0, h5, h6, rfl⟩
        · have hlt : cell < 10 ^ 18 := by
            refine Int.not_le.mp fun q => hg (decide_eq_true ?_)
            exact q
          refine ⟨_, rfl, _, _, _, _, rfl, rfl, SqL.of hu2, rfl, _, _, rfl, rfl, .inl ⟨by omega, by omega⟩, _, rfl, _, _, rfl, rfl, _, _, rfl, rfl, .inl ⟨_, rfl, _, _, rfl, rfl, (by show (0 : Int) < 2147483647; decide), _, rfl, _, _, _, _, rfl, rfl, hu2, rfl, ?_⟩⟩
          refine ⟨cs.length - (i + 1), by omega, i + 1, 0, (m * 131 + cell + 1) % 2147483647, _, rfl, upd_upd, hi', Int.le_refl _, Int.emod_nonneg _ (by decide), Int.emod_lt_of_pos _ (by decide), rfl⟩
      · exact hnx _ _ ⟨i, 0, m, v, rfl, rfl, h3, h4, h5, h6⟩
    · exact hnx _ _ ⟨i, l, m, v, rfl, rfl, h3, h4, h5, h6⟩
    -- behind the loop
    rintro σ' H' ⟨i, l, m, v, rfl, rfl, h3, h4, h5, h6⟩
    have hu : upd H st (five c (i : Int) l m (n + 1)) st = some (five c (i : Int) l m (n + 1)) := upd_same
    have mk : ∀ (i : Nat) (l m : Int), i ≤ cs.length → 0 ≤ l → 0 ≤ m → m < 2147483647 → Sta (upd H st (five c (i : Int) l m (n + 1))) st c (b + 1) := fun i l m h3 h4 h5 h6 =>
      ⟨cs, i, l, m, n + 1, upd_same, by rw [er_upd]; exact h2, h3, h4, h5, h6, by omega, by omega, hb1⟩
    refine ⟨_, rfl, _, _, _, _, rfl, rfl, SqL.of hu, rfl, _, _, rfl, rfl, _, rfl, ?_⟩
    refine ite2 (fun hl => ?_) (fun hl => ?_)
    · refine ⟨_, rfl, _, _, _, _, rfl, rfl, SqL.of hu, rfl, .inl ⟨_, rfl, _, rfl, _, _, rfl, rfl, hm0, ?_⟩⟩
      refine ⟨_, rfl, _, _, _, _, rfl, rfl, SqL.of hu, rfl, _, rfl, _, _, rfl, rfl, ⟨hm0, by omega⟩, _, rfl, _, _, _, _, rfl, rfl, hu, rfl, ?_⟩
      refine cast_heap (b := upd H st (five c (i : Int) (l / many) m (n + 1))) upd_upd ?_
      refine ⟨_, rfl, ?_⟩
      exact k _ _ (Int.emod_nonneg _ (by omega)) (Int.emod_lt_of_pos _ hm0) (mk i (l / many) m h3 (Int.ediv_nonneg h4 (by omega)) h5 h6)
    · have hp : ∀ x : Int, 0 ≤ x → x < 10000000000 → (0 : Int) ≤ 3 ∧ (3 : Int) ≤ 1000000 ∧ x.natAbs < 2 ^ 64 := fun x a b => ⟨by omega, by omega, by omega⟩
      walk_at "rd"
      exact k _ _ (Int.emod_nonneg _ (by omega)) (Int.emod_lt_of_pos _ hm0) (mk i l m h3 h4 h5 h6)
theorem ok_fresh (T : Txt K mg A) : FnOk P w K mg base CX0 1 A.a__law_fresh A.d__law_fresh P__law_fresh (spFresh K) := by
  refine T.f__law_fresh.ok sc__law_fresh (fun vs H Q E h => ?_) (fun cdv A' outer s H vs Q E hr h => ?_)
  · obtain ⟨a, ns, rfl, _⟩ := h
    rfl
  · obtain ⟨a, ns, rfl, hS, k⟩ := h
    refine ⟨_, (pss_one (ps_ret (pe_lst (pa_cons (pe_callTy call_list_of (by rfl) T.list (by decide +kernel) (pa_cons (pe_slice sl_list (pv 0) po_none (po_some pe_int)) pa_nil)) (pa_cons pe_int (pa_cons pe_int (pa_cons pe_int (pa_cons pe_int pa_nil)))))))), ?_⟩
    refine ⟨_, rfl, _, rfl, _, _, rfl, hS, fun p hp => ⟨_, _, rfl, .inl (SqL.of upd_same), fun c hc => ⟨by show 5 ≤ sizeLine; decide, fun st hst => ?_⟩⟩⟩
    have s1 : Same H (upd (upd H p (.lst (cutV (ns.map V.int) none (some 40)))) c (.lst (cutV (ns.map V.int) none (some 40)))) := (Same.new hp).trans (Same.new hc)
    have hst0 : H st = none := s1.free hst
    have ec : cutV (ns.map V.int) none (some 40) = (ns.take 40).map V.int := by
      unfold cutV
      rw [HT.sIx_none, show ((40 : Int)) = ((40 : Nat) : Int) from rfl, HT.sIx_nat]
      rw [List.drop_zero, Nat.sub_zero, List.map_take, List.length_map]
      by_cases h40 : 40 ≤ ns.length
      · rw [Nat.min_eq_left h40]
      · rw [Nat.min_eq_right (by omega), List.take_of_length_le (by simp), List.take_of_length_le (by simp; omega)]
    have hcs : c ≠ st := fun e => by rw [← e, upd_same] at hst; cases hst
    refine k st c _ (fun b o e => er_of (fun z => by rw [z, hst0] at e; cases e) (by rw [upd_ne (fun z => by rw [z, hst0] at e; cases e)]; exact s1 _ _ e)) ?_
    refine ⟨ns.take 40, 0, 0, 0, 0, upd_same, er_of hcs ?_, Nat.zero_le _, Int.le_refl _, Int.le_refl _, by decide, Int.le_refl _, Int.le_refl _, by decide⟩
    rw [upd_ne hcs, upd_same, ec]
theorem ok_one (T : Txt K mg A) : FnOk P w K mg base CX0 2 A.a__law_one A.d__law_one P__law_one (spOne K) := by
  have G__law_take : FnOk P w K mg base CX0 1 A.a__law_take A.d__law_take P__law_take spTake := ok_take T
  refine T.f__law_one.ok sc__law_one (fun vs H Q E h => ?_) (fun cdv A' outer s H vs Q E hr h => ?_)
  · obtain ⟨st, c, t, xs, b, rfl, _⟩ := h
    rfl
  · obtain ⟨st, c, t, xs, b, rfl, S, hb, hS, h0, h1, k⟩ := h
    refine ⟨_, (pss_one (ps_ret (pe_ix ix_list (pv 1) (pe_call G__law_take (hr.mono (by omega)) (by rfl) T.g__law_take T.f__law_take.kp T.b__law_take .nil pass0 (pa_cons (pv 0) (pa_cons (pe_callB call_len_seq (by rfl) T.len PySem.boot_len (pa_cons (pv 1) pa_nil)) pa_nil))) (fun _ _ => rfl)))), ?_⟩
    refine ⟨_, rfl, _, rfl, _, rfl, _, _, rfl, .inl (sqEr hS), st, c, _, b, rfl, S, hb, by omega, by omega, fun r o hr0 hr1 S' => ?_⟩
    have g := Gs.of_upd S'
    have hi : r.toNat < xs.length := by omega
    refine ⟨_, _, _, _, rfl, rfl, sqEr (sqUp hS g.same), at_of (j := r.toNat) (by omega) (List.getElem?_eq_getElem hi), ?_⟩
    exact k r.toNat _ _ (List.getElem?_eq_getElem hi) g
end
end K5
set_option Elab.async false
set_option linter.all false
set_option maxRecDepth 100000
set_option maxHeartbeats 4000000
namespace K5
open PySem L2
local macro_rules | `(tactic| walk_at "rd1") => `(tactic| first
  | refine ⟨_, _, rfl, rfl, ?_⟩
  | refine ⟨_, _, _, _, rfl, rfl, SqL.of (by assumption), rfl, ?_⟩
  | refine ⟨_, _, _, _, rfl, rfl, (by assumption), rfl, ?_⟩
  | refine .inl ⟨_, rfl, ?_⟩
  | refine ⟨_, rfl, ?_⟩
  | refine ⟨(by unfold CMul; omega), ?_⟩
  | refine ⟨(by unfold CPow; omega), ?_⟩
  | refine ⟨(by (try dsimp only); omega), ?_⟩
  | refine ⟨(by unfold CDiv; omega), ?_⟩
  | fail "rd1")
local macro_rules | `(tactic| walk_at "rd") => `(tactic| repeat' (walk_at "rd1"))
section
variable {P : Program} {w : World} {K : PySem.W.Frag} {mg : Str → Option Value} {base : Heap} {A : Ad}

theorem stUp {H H' : Hp} {a : Addr} {xs : List V} (h : SqT K H a xs) (s : Same H H') : SqT K H' a xs := by
  rcases h with (h | ⟨o, h⟩) | h
  · exact .inl (.inl (s _ _ h))
  · exact .inl (.inr ⟨o, s _ _ h⟩)
  · exact .inr h
theorem map_erase {α β : Type} (g : α → β) :
    ∀ (l : List α) (j : Nat), (l.eraseIdx j).map g = (l.map g).eraseIdx j
  | [], _ => rfl
  | _ :: _, 0 => rfl
  | a :: l, j + 1 => congrArg (g a :: ·) (map_erase g l j)
theorem erase_perm {α : Type} : ∀ {ls : List α} {i : Nat} {y : α}, ls[i]? = some y → (y :: ls.eraseIdx i).Perm ls
  | a :: l, 0, y, h => by
    have e : a = y := Option.some.inj h
    rw [e]
    exact List.Perm.refl _
  | a :: l, i + 1, y, h => (List.Perm.swap a y (l.eraseIdx i)).trans ((erase_perm (ls := l) (i := i) (y := y) h).cons a)
  | [], i, y, h => by simp at h
theorem seqIx {r : Int} {n : Nat} (h0 : 0 ≤ r) (h1 : r < (n : Int)) : seqIndex? r n = some r.toNat := by
  unfold seqIndex?
  have e : ¬ r < 0 := by omega
  simp only [e, if_false]
  have : ((0 : Int) ≤ r && r < (n : Int)) = true := by simp [h0, h1]
  simp [h0, h1]
mutual
theorem dpSame {H H' : Hp} (s : Same H H') : ∀ {v : V} {d : PyData}, Dp K H v d → Dp K H' v d
  | _, _, .non => .non
  | _, _, .bl b => .bl b
  | _, _, .int i => .int i
  | _, _, .str x => .str x
  | _, _, .lst h q => .lst (s.seq h) (dpAllSame s q)
  | _, _, .tup h q => .tup (stUp h s) (dpAllSame s q)
theorem dpAllSame {H H' : Hp} (s : Same H H') : ∀ {vs : List V} {ds : List PyData}, DpAll K H vs ds → DpAll K H' vs ds
  | _, _, .nil => .nil
  | _, _, .cons a b => .cons (dpSame s a) (dpAllSame s b)
end
theorem dpStrs {H : Hp} : ∀ ss : List Str, DpAll K H (ss.map V.str) (ss.map PyData.str)
  | [] => .nil
  | s :: ss => .cons (.str s) (dpStrs ss)
theorem strs_lay : ∀ {ss : List Str}, (∀ s ∈ ss, PyData.strOk s = true) → PyData.canLayAll0 (ss.map PyData.str) = true
  | [], _ => by simp [PyData.canLayAll0]
  | s :: ss, h => by
    simp only [List.map_cons, PyData.canLayAll0, PyData.canLay0, h s (List.mem_cons_self ..), Bool.true_and]
    exact strs_lay fun t ht => h t (List.mem_cons_of_mem _ ht)
theorem strs_depth : ∀ ss : List Str, PyData.depthAll (ss.map PyData.str) = 0
  | [] => by simp [PyData.depthAll]
  | s :: ss => by simp only [List.map_cons, PyData.depthAll, PyData.depth, strs_depth ss]; rfl
theorem strs_shaped {ss : List Str} (h : ∀ s ∈ ss, PyData.strOk s = true) : SeqAt.shaped (.list (ss.map PyData.str)) = true := by
  show (PyData.canLay0 (.list (ss.map PyData.str)) && decide (PyData.depth (.list (ss.map PyData.str)) ≤ 64)) = true
  rw [Bool.and_eq_true]
  refine ⟨by simp only [PyData.canLay0]; exact strs_lay h, decide_eq_true ?_⟩
  simp only [PyData.depth, strs_depth]
  decide
theorem eqv_strs_nil : ∀ ss : List Str, PyData.eqv (.list (ss.map PyData.str)) (.list []) = ss.isEmpty
  | [] => by simp [PyData.eqv, PyData.eqvAll]
  | s :: ss => by simp [PyData.eqv, PyData.eqvAll]
theorem perm_move {α : Type} {fs ls : List α} {i : Nat} {y : α} (h : ls[i]? = some y) : (fs ++ [y] ++ ls.eraseIdx i).Perm (fs ++ ls) := by
  rw [List.append_assoc]
  exact List.Perm.append_left fs (erase_perm h)
theorem ok_mix (T : Txt K mg A) : FnOk P w K mg base CX0 2 A.a__law_mix A.d__law_mix P__law_mix (spMix K) := by
  have G__law_take : FnOk P w K mg base CX0 1 A.a__law_take A.d__law_take P__law_take spTake := ok_take T
  refine T.f__law_mix.ok sc__law_mix (fun vs H Q E h => ?_) (fun cdv A' outer s H vs Q E hr h => ?_)
  · obtain ⟨st, c, t, ss, b, rfl, _⟩ := h
    rfl
  · obtain ⟨st, c, t, ss, b, rfl, S, hb, hS, hl, hok, k⟩ := h
    refine ⟨_, (pss_cons (ps_par (i := 2) (j := 3) (by rfl) sc__law_mix.nd rfl rfl (by decide) rfl rfl (pa_cons (pe_callTy call_list_of (by rfl) T.list (by decide +kernel) (pa_cons (pv 1) pa_nil)) (pa_cons (pe_lst pa_nil) pa_nil)) (by rfl))
 (pss_cons (ps_while PassesOwn.never (pt_cmpR (op_neD hr.units) (pv 2) (pe_lst pa_nil) (nomark _))
 (pss_one (ps_expr (pe_bm PySem.F.plainAttrs_list PySem.F.slot_list_append PySem.F.type_list_append mt_append (pv 3) (pa_cons (pe_bm PySem.F.plainAttrs_list PySem.F.slot_list_pop PySem.F.type_list_pop mt_popAt (pv 2) (pa_cons (pe_call G__law_take (hr.mono (by omega)) (by rfl) T.g__law_take T.f__law_take.kp T.b__law_take .nil pass0 (pa_cons (pv 0) (pa_cons (pe_callB call_len_seq (by rfl) T.len PySem.boot_len (pa_cons (pv 2) pa_nil)) pa_nil))) pa_nil)) pa_nil)))))
 (pss_one (ps_ret (pv 3))))), ?_⟩
    refine ⟨_, rfl, _, _, rfl, .inl (sqEr hS), fun left nl => ⟨Nat.zero_le _, fun fnd nf => ⟨_, _, rfl, ?_⟩⟩⟩
    have nls : left ≠ st := S.ne nl
    have nf0 : H fnd = none := (Same.new nl).free nf
    have nfs : fnd ≠ st := S.ne nf0
    have nlf : left ≠ fnd := ne_of_none upd_same nf
    have el : er H st left = none := er_none nl
    have ef : er H st fnd = none := er_none nf0
    have g0 : Gs st c H (upd (upd H left (.lst (ss.map V.str))) fnd (.lst [])) b := (Gs.refl S).set S.hc el nls |>.set S.hc ef nfs
    refine while_ex (fun mm σ' H' => ∃ (ls fs : List Str), σ' = [some (.ref st), some (.ref t), some (.ref left), some (.ref fnd)] ∧ H' left = some (.lst (ls.map V.str)) ∧ H' fnd = some (.lst (fs.map V.str)) ∧ (fs ++ ls).Perm ss ∧ Gs st c H H' (b + (fs.length : Int)) ∧ mm = ls.length)
      (fun σ' H' => ∃ (fs : List Str), σ' = [some (.ref st), some (.ref t), some (.ref left), some (.ref fnd)] ∧ H' fnd = some (.lst (fs.map V.str)) ∧ fs.Perm ss ∧ Gs st c H H' (b + (fs.length : Int)))
      ⟨ss, [], rfl, by rw [upd_ne nlf, upd_same], by rw [upd_same]; rfl, List.Perm.refl _, by simpa using g0, rfl⟩ (fun nx hnx => ?_) ?_
    · rintro mm σ' H' ⟨ls, fs, rfl, h1, h2, hp, g, rfl⟩
      have hpl : fs.length + ls.length = ss.length := by rw [← List.length_append]; exact hp.length_eq
      have hls : ∀ s ∈ ls, PyData.strOk s = true := fun s hs => hok s (hp.mem_iff.mp (List.mem_append_right _ hs))
      refine ⟨_, rfl, Nat.zero_le _, fun e he => ⟨.list (ls.map PyData.str), .list [], ?_⟩⟩
      have h1' : upd H' e (.lst []) left = some (.lst (ls.map V.str)) := Same.new he _ _ h1
      have h2' : upd H' e (.lst []) fnd = some (.lst (fs.map V.str)) := Same.new he _ _ h2
      have g' : Gs st c H (upd H' e (.lst [])) (b + (fs.length : Int)) := g.new he
      refine ⟨.lst (SqL.of h1') (dpStrs ls), .lst (SqL.of upd_same) .nil, strs_shaped hls, by decide +kernel, _, rfl, ?_⟩
      rw [eqv_strs_nil]
      refine ite2 (fun hne => ?_) (fun hne => ?_)
      · have hpos : 0 < ls.length := by
          cases ls with
          | nil => cases hne
          | cons _ _ => exact Nat.succ_pos _
        refine ⟨_, fun _ _ z => z, ?_⟩
        refine ⟨_, rfl, .inl ⟨rfl, _, SqL.of h2'⟩, _, rfl, .inl ⟨rfl, _, SqL.of h1'⟩, _, rfl, _, rfl, _, _, rfl, .inl (SqL.of h1'), st, c, _, _, rfl, g'.sta, by omega, by rw [List.length_map]; omega, by rw [List.length_map]; omega, fun r o hr0 hr1 S' => ?_⟩
        rw [List.length_map] at hr1
        have g2 : Gs st c H (upd (upd H' e (.lst [])) st o) (b + (fs.length : Int) + 1) := g'.trans (Gs.of_upd S')
        have h1'' : upd (upd H' e (.lst [])) st o left = some (.lst (ls.map V.str)) := by rw [upd_ne nls]; exact h1'
        have h2'' : upd (upd H' e (.lst [])) st o fnd = some (.lst (fs.map V.str)) := by rw [upd_ne nfs]; exact h2'
        have hi : r.toNat < ls.length := by omega
        have hy : ls[r.toNat]? = some ls[r.toNat] := List.getElem?_eq_getElem hi
        refine ⟨_, _, _, r.toNat, _, rfl, rfl, h1'', by omega, by omega, ?_, by rw [List.getElem?_map, hy]; rfl, ?_⟩
        · rw [List.length_map]
          exact seqIx hr0 hr1
        · refine ⟨_, _, _, rfl, rfl, (by rw [upd_ne nlf.symm]; exact h2''), by rw [List.length_map]; exact Nat.lt_of_le_of_lt (show fs.length ≤ 64 by omega) (by decide), ?_⟩
          refine ⟨(ls.eraseIdx r.toNat).length, ?_, ls.eraseIdx r.toNat, fs ++ [ls[r.toNat]], rfl, ?_, ?_, (perm_move hy).trans hp, ?_, rfl⟩
          · rw [List.length_eraseIdx_of_lt hi]; omega
          · rw [upd_ne nlf, upd_same, map_erase]
          · rw [upd_same, List.map_append]; rfl
          · rw [List.length_append]
            refine Gs.le ((g2.set S.hc el nls).set S.hc ef nfs) (by simp; omega) (by simp; omega)
      · have hnil : ls = [] := by
          cases ls with
          | nil => rfl
          | cons _ _ => exact absurd rfl hne
        subst hnil
        exact hnx _ _ ⟨fs, rfl, h2', by rw [List.append_nil] at hp; exact hp, g'⟩
    · rintro σ' H' ⟨fs, rfl, h2, hp, g⟩
      refine ⟨_, rfl, k fnd fs H' hp (g.le (by have := hp.length_eq; omega) hb) (er_of nfs h2) ef⟩
end
end K5
set_option Elab.async false
set_option linter.all false
set_option maxRecDepth 100000
set_option maxHeartbeats 4000000
namespace K5
open PySem L2
local macro_rules | `(tactic| walk_at "rd1") => `(tactic| first
  | refine ⟨_, _, rfl, rfl, ?_⟩
  | refine ⟨_, _, _, _, rfl, rfl, SqL.of (by assumption), rfl, ?_⟩
  | refine ⟨_, _, _, _, rfl, rfl, (by assumption), rfl, ?_⟩
  | refine .inl ⟨_, rfl, ?_⟩
  | refine ⟨_, rfl, ?_⟩
  | refine ⟨(by unfold CMul; omega), ?_⟩
  | refine ⟨(by unfold CPow; omega), ?_⟩
  | refine ⟨(by (try dsimp only); omega), ?_⟩
  | refine ⟨(by unfold CDiv; omega), ?_⟩
  | fail "rd1")
local macro_rules | `(tactic| walk_at "rd") => `(tactic| repeat' (walk_at "rd1"))
section
variable {P : Program} {w : World} {K : PySem.W.Frag} {mg : Str → Option Value} {base : Heap} {A : Ad}

def pool1 : List Str := ["a", "b", "rice", "fish", "start", "done", "wish", "zz"]
def pool2 : List Str := ["station", "clocks", "abcdefgh", "meal", "go", "wait", "cloc", "on"]
def pool : List Str := ["a", "b", "rice", "fish", "start", "done", "wish", "zz", "station", "clocks", "abcdefgh", "meal", "go", "wait", "cloc", "on"]
theorem pool_nodup : pool.Nodup := by decide +kernel
theorem pool_ok : ∀ s ∈ pool, PyData.strOk s = true := by decide +kernel
def spNames (K : PySem.W.Frag) : Sp := fun vs H Q _ => ∃ (st c : Addr) (b : Int) (n : Nat), vs = [.ref st, .int n] ∧ Sta H st c b ∧ b + 64 ≤ 1000000 ∧ n ≤ 16 ∧
  ∀ (p : Addr) (ys : List Str) (H' : Hp), ys.Nodup → (∀ s ∈ ys, s ∈ pool) → ys.length = n → Gs st c H H' (b + 64) → er H' st p = some (.lst (ys.map V.str)) → er H st p = none → Q (.ref p) H'
theorem ok_names (T : Txt K mg A) : FnOk P w K mg base CX0 3 A.a__law_names A.d__law_names P__law_names (spNames K) := by
  have G__law_mix : FnOk P w K mg base CX0 2 A.a__law_mix A.d__law_mix P__law_mix (spMix K) := ok_mix T
  refine T.f__law_names.ok sc__law_names (fun vs H Q E h => ?_) (fun cdv A' outer s H vs Q E hr h => ?_)
  · obtain ⟨st, c, b, n, rfl, _⟩ := h
    rfl
  · obtain ⟨st, c, b, n, rfl, S, hb, hn, k⟩ := h
    refine ⟨_, (pss_cons (ps_set (i := 2) sc__law_names.nd rfl (Or.inl rfl) (pe_lst (pa_cons pe_str (pa_cons pe_str (pa_cons pe_str (pa_cons pe_str (pa_cons pe_str (pa_cons pe_str (pa_cons pe_str (pa_cons pe_str pa_nil))))))))))
 (pss_one (ps_ret (pe_slice sl_list (pe_call G__law_mix (hr.mono (by omega)) (by rfl) T.g__law_mix T.f__law_mix.kp T.b__law_mix .nil pass0 (pa_cons (pv 0) (pa_cons (pe_op op_cat (pv 2) (pe_lst (pa_cons pe_str (pa_cons pe_str (pa_cons pe_str (pa_cons pe_str (pa_cons pe_str (pa_cons pe_str (pa_cons pe_str (pa_cons pe_str pa_nil)))))))))) pa_nil))) po_none (po_some (pv 1)))))), ?_⟩
    refine ⟨by show 8 ≤ sizeLine; decide, fun p hp => ?_⟩
    refine ⟨_, rfl, _, rfl, by show 8 ≤ sizeLine; decide, fun q hq => ?_⟩
    have g1 : Gs st c H (upd (upd H p (.lst (pool1.map V.str))) q (.lst (pool2.map V.str))) b := ((Gs.refl S).new hp).new hq
    have h1 : upd (upd H p (.lst (pool1.map V.str))) q (.lst (pool2.map V.str)) p = some (.lst (pool1.map V.str)) := by
      rw [upd_ne (ne_of_none upd_same hq), upd_same]
    refine ⟨_, _, _, _, rfl, rfl, h1, upd_same, by show 16 ≤ sizeLine; decide, fun t ht => ?_⟩
    have nt := g1.sta.ne ht
    have g0 : Gs st c H (upd (upd (upd H p (.lst (pool1.map V.str))) q (.lst (pool2.map V.str))) t (.lst (pool1.map V.str ++ pool2.map V.str))) b := g1.new ht
    refine ⟨st, c, t, pool, b, rfl, g0.sta, hb, SqL.of (er_of nt upd_same), by decide, pool_ok, fun l ys H' hperm g hl hl0 => ?_⟩
    refine ⟨_, rfl, _, rfl, _, _, rfl, SqL.of ((er_same _ _) _ _ hl), fun d hd => ?_⟩
    have hlen : ys.length = 16 := by rw [hperm.length_eq]; rfl
    have ec : cutV (ys.map V.str) none (some (n : Int)) = (ys.take n).map V.str := by
      unfold cutV
      rw [HT.sIx_none, HT.sIx_nat, List.drop_zero, Nat.sub_zero, List.map_take, List.length_map, hlen, Nat.min_eq_left hn]
    have g3 : Gs st c H (upd H' d (.lst (cutV (ys.map V.str) none (some (n : Int))))) (b + 64) := (g0.trans g).new hd
    have hnd : ys.Nodup := hperm.nodup_iff.mpr pool_nodup
    refine k d (ys.take n) _ (hnd.sublist (List.take_sublist _ _)) (fun s hs => hperm.mem_iff.mp (List.mem_of_mem_take hs)) (by rw [List.length_take]; omega) g3 (er_of (g.sta.ne hd) ?_) ?_
    · rw [upd_same, ec]
    · have e0 := er_none (st := st) hd
      exact ((g0.trans g).same).free e0
end
end K5
set_option Elab.async false
set_option linter.all false
set_option maxRecDepth 100000
set_option maxHeartbeats 4000000
namespace K5
open PySem L2
local macro_rules | `(tactic| walk_at "rd1") => `(tactic| first
  | refine ⟨_, _, rfl, rfl, ?_⟩
  | refine ⟨_, _, _, _, rfl, rfl, SqL.of (by assumption), rfl, ?_⟩
  | refine ⟨_, _, _, _, rfl, rfl, (by assumption), rfl, ?_⟩
  | refine .inl ⟨_, rfl, ?_⟩
  | refine ⟨_, rfl, ?_⟩
  | refine ⟨(by unfold CMul; omega), ?_⟩
  | refine ⟨(by unfold CPow; omega), ?_⟩
  | refine ⟨(by (try dsimp only); omega), ?_⟩
  | refine ⟨(by unfold CDiv; omega), ?_⟩
  | fail "rd1")
local macro_rules | `(tactic| walk_at "rd") => `(tactic| repeat' (walk_at "rd1"))
section
variable {P : Program} {w : World} {K : PySem.W.Frag} {mg : Str → Option Value} {base : Heap} {A : Ad}

/-! ### data, and whether two are the same -/
def kindOf : PyData → String
  | .none => "NoneType"
  | .bool _ => "bool"
  | .int _ => "int"
  | .str _ => "str"
  | .list _ => "list"
  | .tuple _ => "tuple"
  | .dict _ => "dict"
theorem tyL {H : Hp} {a : Addr} {xs : List V} (h : SqL K H a xs) : TyX K H (.ref a) (.type "list") := by
  rcases h with (h | ⟨o, h⟩) | ⟨o, _, _, h1, h2, _⟩
  · exact .base (.lst h)
  · exact .base (.frz h)
  · exact .kList h1 h2
theorem tyT {H : Hp} {a : Addr} {xs : List V} (h : SqT K H a xs) : TyX K H (.ref a) (.type "tuple") := by
  rcases h with (h | ⟨o, h⟩) | ⟨o, _, _, h1, h2, _⟩
  · exact .base (.tup h)
  · exact .fTuple h
  · exact .kTuple h1 h2
theorem tyD {H : Hp} {v : V} {d : PyData} (h : Dp K H v d) : TyX K H v (.type (kindOf d)) := by
  cases h with
  | non => exact .base .non
  | bl b => exact .base (.bl b)
  | int i => exact .base (.int i)
  | str x => exact .base (.str x)
  | lst h _ => exact tyL h
  | tup h _ => exact tyT h
theorem kit2 {K : PySem.W.Frag} {a b c : String} {r s : Bool} (h : kitB a b = some r) (k : kitB a c = some s) : PySem.W.kitAny K (.type a) [.type b, .type c] = some (r || s) := by
  cases r with
  | true => exact kitAny_cons (kit_ty h) (fun z => nomatch z) (fun _ => rfl)
  | false => 
    refine kitAny_cons (kit_ty h) (fun _ => ?_) (fun z => nomatch z)
    cases s with
    | true => exact kitAny_cons (kit_ty k) (fun z => nomatch z) (fun _ => rfl)
    | false => exact kitAny_cons (kit_ty k) (fun _ => kitAny_nil) (fun z => nomatch z)
theorem kit3 {K : PySem.W.Frag} {a b c d : String} {r s t : Bool} (h : kitB a b = some r) (k : kitB a c = some s) (m : kitB a d = some t) : PySem.W.kitAny K (.type a) [.type b, .type c, .type d] = some (r || (s || t)) := by
  cases r with
  | true => exact kitAny_cons (kit_ty h) (fun z => nomatch z) (fun _ => rfl)
  | false =>
    have e := kit2 (K := K) k m
    rw [Bool.false_or]
    exact kitAny_cons (kit_ty h) (fun _ => e) (fun z => nomatch z)
theorem dpGet {H : Hp} : ∀ {vs : List V} {ds : List PyData} {i : Nat} {v : V}, DpAll K H vs ds → vs[i]? = some v → ∃ d, ds[i]? = some d ∧ Dp K H v d
  | _, _, 0, v, .cons a _, h => ⟨_, rfl, by rw [← Option.some.inj h]; exact a⟩
  | _, _, i + 1, v, .cons _ b, h => dpGet (i := i) b h
  | _, _, i, v, .nil, h => by simp at h
theorem dpLen {H : Hp} : ∀ {vs : List V} {ds : List PyData}, DpAll K H vs ds → vs.length = ds.length
  | _, _, .nil => rfl
  | _, _, .cons _ b => congrArg (· + 1) (dpLen b)
theorem walk_zipT {a b : Addr} {xs ys : List V} {n : Nat} (hn : n = min xs.length ys.length) : Walk (RZ.ItzT K a b) n (fun H => SqT K H a xs ∧ SqT K H b ys) (YPair (fun i => xs[i]?) (fun i => ys[i]?)) := by
  subst hn
  refine ⟨fun i H hi q => ⟨xs, ys, _, _, q.1, q.2, List.getElem?_eq_getElem (by omega), List.getElem?_eq_getElem (by omega)⟩, fun H q => ⟨xs, ys, q.1, q.2, by omega⟩, fun i H v H' hi q y => ?_⟩
  obtain ⟨T, x, z, e1, e2, e3, e4, e5⟩ := y
  exact ⟨T, x, z, e1, e2, e3, e4 _ q.1, e5 _ q.2⟩
mutual
/-- no list in it has more than a thousand things -/
def wid : PyData → Bool
  | .list xs | .tuple xs => decide (xs.length ≤ 1000) && widAll xs
  | _ => true
def widAll : List PyData → Bool
  | [] => true
  | x :: xs => wid x && widAll xs
end
theorem widAll_mem : ∀ {ds : List PyData} {d : PyData}, widAll ds = true → d ∈ ds → wid d = true
  | x :: xs, d, h, m => by
    simp only [widAll, Bool.and_eq_true] at h
    rcases List.mem_cons.mp m with e | m
    · rw [e]; exact h.1
    · exact widAll_mem h.2 m
theorem wid_parts {xs : List PyData} (h : wid (.list xs) = true ∨ wid (.tuple xs) = true) : xs.length ≤ 1000 ∧ widAll xs = true := by
  simp only [wid, Bool.and_eq_true, decide_eq_true_eq, or_self] at h
  exact h
/-- the promise of «same» for data of a depth below n -/
def spSame (K : PySem.W.Frag) (n : Nat) : Sp := fun vs H Q _ => ∃ (x y : V) (d : PyData), vs = [x, y] ∧ Dp K H x d ∧ Dp K H y d ∧ d.depth < n ∧ wid d = true ∧ ∀ H', Same H H' → Q (.bl true) H'
theorem no_fn {f : Addr} {fd : FuncData} {ps : List Str} {k : Nat} {sp : Sp} (h : ∀ vs H Q E, ¬ sp vs H Q E) : FnOk P w K mg base CX0 k f fd ps sp :=
  ⟨fun vs H Q E z => (h vs H Q E z).elim, fun _ _ _ _ _ _ _ _ _ _ _ _ _ z => (h _ _ _ _ z).elim⟩
theorem same_loop {J : It} {N n : Nat} {G : Hp → Prop} {xs ys : List V} {ds : List PyData} {H : Hp} {D : Addr} {x0 y0 : V} {Qd : Hp → Prop} (wk : Walk J N G (YPair (fun i => xs[i]?) (fun i => ys[i]?))) (hx : DpAll K H xs ds) (hy : DpAll K H ys ds)
    (hd : PyData.depthAll ds < n) (hw : widAll ds = true) (hN : N ≤ 1000) (hG : ∀ H', Same H H' → G H') (hD : H D = none) (hq : ∀ H', Same H H' → H' D = some (.lst ((List.replicate N true).map V.bl)) → Qd H') :
    ∃ W : Nat → Nat → Hp → Prop, (∃ m, W 0 m (upd H D (.lst []))) ∧ ∀ i m H, W i m H →
      (J.stop i H ∧ Qd H) ∨ (J.go i H ∧ ∃ Nx : Hp → Prop, (∀ H', Nx H' → ∃ m', m' < m ∧ W (i + 1) m' H') ∧ ∀ x H', J.yld i H x H' →
        gTup K 2 (gCons (gName 2) (gCons (gName 3) gNil)) x (wipe [some x0, some y0, none, none] [2, 3]) H' fun σ2 H2 => wipe σ2 [2, 3] = wipe [some x0, some y0, none, none] [2, 3] ∧ tYes σ2 H2 fun b H3 =>
        if b = true then (tCall (spSame K n) [] E0 (tCons (tVar 2) (tCons (tVar 3) tNil))) σ2 H3 fun y H4 => ∃ acc, H4 D = some (.lst acc) ∧ acc.length < sizeLine ∧ Nx (upd H4 D (.lst (acc ++ [y]))) else Nx H3) := by
  have same_upd : ∀ {H' : Hp} {o : HO}, Same H H' → Same H (upd H' D o) := fun s b u e => by
    rw [upd_ne (ne_of_none e hD)]; exact s _ _ e
  refine lc_it wk (fun i H' => Same H H' ∧ H' D = some (.lst ((List.replicate i true).map V.bl))) ⟨Same.new hD, upd_same⟩ (fun i H' _ p => hG H' p.1) ?_ (fun H' p => hq H' p.1 p.2)
  rintro i v H' H'' hi ⟨s1, hD'⟩ ⟨T, x, y, rfl, hT, rfl, hx', hy'⟩
  obtain ⟨d, hd1, dx⟩ := dpGet hx hx'
  obtain ⟨d', hd2, dy⟩ := dpGet hy hy'
  rw [hd1] at hd2
  cases hd2
  have hdep : d.depth < n := Nat.lt_of_le_of_lt (PyData.depth_le_depthAll ds d (List.mem_of_getElem? hd1)) hd
  have s2 := s1.trans (Same.new (o := .tup [x, y]) hT)
  refine ⟨T, [x, y], rfl, SqT.of upd_same, rfl, _, _, rfl, _, _, rfl, rfl, rfl, ?_⟩
  refine ⟨_, rfl, _, rfl, x, y, d, rfl, dpSame s2 dx, dpSame s2 dy, hdep, widAll_mem hw (List.mem_of_getElem? hd1), fun H3 s3 => ?_⟩
  have hD3 : H3 D = some (.lst ((List.replicate i true).map V.bl)) := s3 _ _ (Same.new hT _ _ hD')
  refine ⟨_, hD3, by rw [List.length_map, List.length_replicate]; exact Nat.lt_of_lt_of_le hi (Nat.le_trans hN (by decide)), same_upd (s2.trans s3), ?_⟩
  rw [upd_same, List.replicate_succ', List.map_append]
  rfl
theorem all_true (n : Nat) : (List.replicate n true).all id = true := by
  induction n with
  | zero => rfl
  | succ n ih => rw [List.replicate_succ, List.all_cons, ih]; rfl
theorem ok_same (T : Txt K mg A) : ∀ n : Nat, FnOk P w K mg base CX0 n A.a__law_same A.d__law_same P__law_same (spSame K n)
  | 0 => no_fn fun vs H Q E ⟨_, _, _, _, _, _, h, _⟩ => absurd h (Nat.not_lt_zero _)
  | n + 1 => by
    have G__law_same : FnOk P w K mg base CX0 n A.a__law_same A.d__law_same P__law_same (spSame K n) := ok_same T n
    refine T.f__law_same.ok sc__law_same (fun vs H Q E h => ?_) (fun cdv A' outer s H vs Q E hr h => ?_)
    · obtain ⟨x, y, d, rfl, _⟩ := h
      rfl
    · obtain ⟨x, y, d, rfl, hx, hy, hd, hw, k⟩ := h
      refine ⟨_, (pss_cons (ps_if (pt_val (pe_callB call_isiT (by rfl) T.isinstance (by decide +kernel) (pa_cons (pv 1) (pa_cons (pe_tup (pa_cons (pe_bltn (v := .ty "list") (u := .type "list") (by rfl) T.list (by decide +kernel) rfl) (pa_cons (pe_bltn (v := .ty "tuple") (u := .type "tuple") (by rfl) T.tuple (by decide +kernel) rfl) pa_nil))) pa_nil))))
 (pss_cons (ps_if (PW.pt (pw_or (pt_cmpR op_ne (pe_callB call_isi (by rfl) T.isinstance (by decide +kernel) (pa_cons (pv 0) (pa_cons (pe_bltn (v := .ty "list") (u := .type "list") (by rfl) T.list (by decide +kernel) rfl) pa_nil))) (pe_callB call_isi (by rfl) T.isinstance (by decide +kernel) (pa_cons (pv 1) (pa_cons (pe_bltn (v := .ty "list") (u := .type "list") (by rfl) T.list (by decide +kernel) rfl) pa_nil))) (nomark _)) (pw_or1 (pt_cmpR op_ne (pe_callB call_isi (by rfl) T.isinstance (by decide +kernel) (pa_cons (pv 0) (pa_cons (pe_bltn (v := .ty "tuple") (u := .type "tuple") (by rfl) T.tuple (by decide +kernel) rfl) pa_nil))) (pe_callB call_isi (by rfl) T.isinstance (by decide +kernel) (pa_cons (pv 1) (pa_cons (pe_bltn (v := .ty "tuple") (u := .type "tuple") (by rfl) T.tuple (by decide +kernel) rfl) pa_nil))) (nomark _)))))
 (pss_one (ps_ret pe_bl))
 pss_nil)
 (pss_one (ps_ret (pe_and (pe_cmpR op_eq (pe_callB call_len_seq (by rfl) T.len PySem.boot_len (pa_cons (pv 0) pa_nil)) (pe_callB call_len_seq (by rfl) T.len PySem.boot_len (pa_cons (pv 1) pa_nil)) (nomark _)) (pe_one (pe_callB (cr_all rfl) (by rfl) T.all (by decide +kernel) (pa_cons (pe_lc (own := [("_law_x", 2), ("_law_y", 3)]) (g := gTup K 2 (gCons (gName 2) (gCons (gName 3) gNil))) (by rfl) sc__law_same.nd (RZ.pi_zipA (by rfl) T.zip (pa_cons (pv 0) (pa_cons (pv 1) pa_nil))) (blkOk_by (N := N__law_same) (sc := defScope s__law_same) (by decide +kernel)) (fun _ _ _ _ _ => (pg_tup rfl (pgs_cons (pg_name (i := 2) sc__law_same.nd rfl (Or.inl rfl)) (pgs_cons (pg_name (i := 3) sc__law_same.nd rfl (Or.inl rfl)) pgs_nil)))) (fun _ _ _ _ _ => pts_nil) (fun _ _ _ _ _ => (pe_call G__law_same (hr.mono (by omega)) (by rfl) T.g__law_same T.f__law_same.kp T.b__law_same .nil pass0 (pa_cons (pv 2) (pa_cons (pv 3) pa_nil))))) pa_nil)))))))
 pss_nil)
 (pss_cons (ps_if (pt_val (pe_callB call_isi (by rfl) T.isinstance (by decide +kernel) (pa_cons (pv 1) (pa_cons (pe_bltn (v := .ty "int") (u := .type "int") (by rfl) T.int (by decide +kernel) rfl) pa_nil))))
 (pss_one (ps_ret (pe_and (pe_callB call_isi (by rfl) T.isinstance (by decide +kernel) (pa_cons (pv 0) (pa_cons (pe_bltn (v := .ty "int") (u := .type "int") (by rfl) T.int (by decide +kernel) rfl) pa_nil))) (pe_and (pe_cmpR op_eq (pe_callB call_isi (by rfl) T.isinstance (by decide +kernel) (pa_cons (pv 0) (pa_cons (pe_bltn (v := .ty "bool") (u := .type "bool") (by rfl) T.bool (by decide +kernel) rfl) pa_nil))) (pe_callB call_isi (by rfl) T.isinstance (by decide +kernel) (pa_cons (pv 1) (pa_cons (pe_bltn (v := .ty "bool") (u := .type "bool") (by rfl) T.bool (by decide +kernel) rfl) pa_nil))) (nomark _)) (pe_one (pe_cmpR op_eq (pv 0) (pv 1) (nomark _)))))))
 pss_nil)
 (pss_one (ps_ret (pe_and (pe_cmpR op_isBl (pe_callB call_isiT (by rfl) T.isinstance (by decide +kernel) (pa_cons (pv 0) (pa_cons (pe_tup (pa_cons (pe_bltn (v := .ty "int") (u := .type "int") (by rfl) T.int (by decide +kernel) rfl) (pa_cons (pe_bltn (v := .ty "list") (u := .type "list") (by rfl) T.list (by decide +kernel) rfl) (pa_cons (pe_bltn (v := .ty "tuple") (u := .type "tuple") (by rfl) T.tuple (by decide +kernel) rfl) pa_nil)))) pa_nil))) pe_bl (nomark _)) (pe_one (pe_cmpR op_eq (pv 0) (pv 1) (nomark _)))))))), ?_⟩
      -- isinstance(due, (list, tuple))
      refine ⟨_, rfl, by show 2 ≤ sizeLine; decide, fun p hp => ?_⟩
      have s1 : Same H (upd H p (.tup [.ty "list", .ty "tuple"])) := Same.new hp
      have hx1 := dpSame s1 hx
      have hy1 := dpSame s1 hy
      cases hx with
      | non =>
        cases hy
        refine ⟨_, p, _, _, _, false, rfl, upd_same, .cons (.ty _) (.cons (.ty _) .nil), .base .non, kit2 (a := "NoneType") (b := "list") (c := "tuple") (r := false) (s := false) (by decide +kernel) (by decide +kernel), _, rfl, iteF ?_⟩
        refine ⟨_, rfl, _, _, .type "NoneType", _, false, rfl, .ty _, .base .non, kit_ty (by decide +kernel), _, rfl, iteF ?_⟩
        refine ⟨_, rfl, by show 3 ≤ sizeLine; decide, fun q hq => ⟨_, q, _, _, _, false, rfl, upd_same, .cons (.ty _) (.cons (.ty _) (.cons (.ty _) .nil)), .base .non, kit3 (a := "NoneType") (b := "int") (c := "list") (d := "tuple") (r := false) (s := false) (t := false) (by decide +kernel) (by decide +kernel) (by decide +kernel), _, _, rfl, rfl, _, rfl, iteT ⟨_, rfl, _, rfl, rfl, ?_⟩⟩⟩
        exact k _ (s1.trans (Same.new hq))
      | str z =>
        cases hy
        refine ⟨_, p, _, _, _, false, rfl, upd_same, .cons (.ty _) (.cons (.ty _) .nil), .base (.str _), kit2 (a := "str") (b := "list") (c := "tuple") (r := false) (s := false) (by decide +kernel) (by decide +kernel), _, rfl, iteF ?_⟩
        refine ⟨_, rfl, _, _, .type "str", _, false, rfl, .ty _, .base (.str _), kit_ty (by decide +kernel), _, rfl, iteF ?_⟩
        refine ⟨_, rfl, by show 3 ≤ sizeLine; decide, fun q hq => ⟨_, q, _, _, _, false, rfl, upd_same, .cons (.ty _) (.cons (.ty _) (.cons (.ty _) .nil)), .base (.str _), kit3 (a := "str") (b := "int") (c := "list") (d := "tuple") (r := false) (s := false) (t := false) (by decide +kernel) (by decide +kernel) (by decide +kernel), _, _, rfl, rfl, _, rfl, iteT ⟨_, rfl, _, rfl, rfl, ?_⟩⟩⟩
        rw [decide_eq_true rfl]
        exact k _ (s1.trans (Same.new hq))
      | int i =>
        cases hy
        refine ⟨_, p, _, _, _, false, rfl, upd_same, .cons (.ty _) (.cons (.ty _) .nil), .base (.int _), kit2 (a := "int") (b := "list") (c := "tuple") (r := false) (s := false) (by decide +kernel) (by decide +kernel), _, rfl, iteF ?_⟩
        refine ⟨_, rfl, _, _, .type "int", _, true, rfl, .ty _, .base (.int _), kit_ty (by decide +kernel), _, rfl, iteT ?_⟩
        refine ⟨_, rfl, _, _, .type "int", _, true, rfl, .ty _, .base (.int _), kit_ty (by decide +kernel), _, rfl, iteT ?_⟩
        refine ⟨_, rfl, _, _, .type "int", _, false, rfl, .ty _, .base (.int _), kit_ty (by decide +kernel), _, rfl, _, _, .type "int", _, false, rfl, .ty _, .base (.int _), kit_ty (by decide +kernel), rfl, _, rfl, iteT ⟨_, rfl, _, rfl, rfl, ?_⟩⟩
        rw [decide_eq_true rfl]
        exact k _ s1
      | bl b =>
        cases hy
        refine ⟨_, p, _, _, _, false, rfl, upd_same, .cons (.ty _) (.cons (.ty _) .nil), .base (.bl _), kit2 (a := "bool") (b := "list") (c := "tuple") (r := false) (s := false) (by decide +kernel) (by decide +kernel), _, rfl, iteF ?_⟩
        refine ⟨_, rfl, _, _, .type "bool", _, true, rfl, .ty _, .base (.bl _), kit_ty (by decide +kernel), _, rfl, iteT ?_⟩
        refine ⟨_, rfl, _, _, .type "bool", _, true, rfl, .ty _, .base (.bl _), kit_ty (by decide +kernel), _, rfl, iteT ?_⟩
        refine ⟨_, rfl, _, _, .type "bool", _, true, rfl, .ty _, .base (.bl _), kit_ty (by decide +kernel), _, rfl, _, _, .type "bool", _, true, rfl, .ty _, .base (.bl _), kit_ty (by decide +kernel), rfl, _, rfl, iteT ⟨_, rfl, _, rfl, rfl, ?_⟩⟩
        rw [decide_eq_true rfl]
        exact k _ s1
      | lst hL hA =>
        cases hy with
        | lst hL2 hA2 =>
          obtain ⟨w1, w2⟩ := wid_parts (.inl hw)
          have l1 := dpLen hA
          have l2 := dpLen hA2
          have t1 := tyL (sqUp hL s1)
          have t2 := tyL (sqUp hL2 s1)
          refine ⟨_, p, _, _, _, true, rfl, upd_same, .cons (.ty _) (.cons (.ty _) .nil), t2, kit2 (a := "list") (b := "list") (c := "tuple") (r := true) (s := false) (by decide +kernel) (by decide +kernel), _, rfl, iteT ?_⟩
          refine ⟨_, rfl, _, _, .type "list", _, true, rfl, .ty _, t1, kit_ty (by decide +kernel), _, rfl, _, _, .type "list", _, true, rfl, .ty _, t2, kit_ty (by decide +kernel), rfl, _, rfl, iteF ?_⟩
          refine ⟨_, rfl, _, _, .type "list", _, false, rfl, .ty _, t1, kit_ty (by decide +kernel), _, rfl, _, _, .type "list", _, false, rfl, .ty _, t2, kit_ty (by decide +kernel), rfl, _, rfl, iteF ?_⟩
          refine ⟨_, rfl, _, _, rfl, .inl (sqUp hL s1), _, rfl, _, _, rfl, .inl (sqUp hL2 s1), rfl, true, ?_, iteT ?_⟩
          · rw [decide_eq_true (by rw [l1, l2])]
          · refine ⟨_, rfl, _, rfl, _, _, _, _, rfl, .inl ⟨sqUp hL s1, sqUp hL2 s1, fun D hD => same_loop (walk_zip rfl) (dpAllSame s1 hA) (dpAllSame s1 hA2) (by simp only [PyData.depth] at hd; omega) w2 (by omega) (fun H' s' => ⟨sqUp hL (s1.trans s'), sqUp hL2 (s1.trans s')⟩) hD (fun H' s' hD' => ?_)⟩⟩
            refine ⟨D, _, rfl, SqL.of hD', ?_⟩
            rw [all_true]
            exact k _ (s1.trans s')
      | tup hL hA =>
        cases hy with
        | tup hL2 hA2 =>
          obtain ⟨w1, w2⟩ := wid_parts (.inr hw)
          have l1 := dpLen hA
          have l2 := dpLen hA2
          have t1 := tyT (stUp hL s1)
          have t2 := tyT (stUp hL2 s1)
          refine ⟨_, p, _, _, _, true, rfl, upd_same, .cons (.ty _) (.cons (.ty _) .nil), t2, kit2 (a := "tuple") (b := "list") (c := "tuple") (r := false) (s := true) (by decide +kernel) (by decide +kernel), _, rfl, iteT ?_⟩
          refine ⟨_, rfl, _, _, .type "tuple", _, false, rfl, .ty _, t1, kit_ty (by decide +kernel), _, rfl, _, _, .type "tuple", _, false, rfl, .ty _, t2, kit_ty (by decide +kernel), rfl, _, rfl, iteF ?_⟩
          refine ⟨_, rfl, _, _, .type "tuple", _, true, rfl, .ty _, t1, kit_ty (by decide +kernel), _, rfl, _, _, .type "tuple", _, true, rfl, .ty _, t2, kit_ty (by decide +kernel), rfl, _, rfl, iteF ?_⟩
          refine ⟨_, rfl, _, _, rfl, .inr (stUp hL s1), _, rfl, _, _, rfl, .inr (stUp hL2 s1), rfl, true, ?_, iteT ?_⟩
          · rw [decide_eq_true (by rw [l1, l2])]
          · refine ⟨_, rfl, _, rfl, _, _, _, _, rfl, .inr ⟨stUp hL s1, stUp hL2 s1, fun D hD => same_loop (walk_zipT rfl) (dpAllSame s1 hA) (dpAllSame s1 hA2) (by simp only [PyData.depth] at hd; omega) w2 (by omega) (fun H' s' => ⟨stUp hL (s1.trans s'), stUp hL2 (s1.trans s')⟩) hD (fun H' s' hD' => ?_)⟩⟩
            refine ⟨D, _, rfl, SqL.of hD', ?_⟩
            rw [all_true]
            exact k _ (s1.trans s')
end
end K5
set_option Elab.async false
set_option linter.all false
set_option maxRecDepth 100000
set_option maxHeartbeats 4000000
namespace K5
open PySem L2
local macro_rules | `(tactic| walk_at "rd1") => `(tactic| first
  | refine ⟨_, _, rfl, rfl, ?_⟩
  | refine ⟨_, _, _, _, rfl, rfl, SqL.of (by assumption), rfl, ?_⟩
  | refine ⟨_, _, _, _, rfl, rfl, (by assumption), rfl, ?_⟩
  | refine .inl ⟨_, rfl, ?_⟩
  | refine ⟨_, rfl, ?_⟩
  | refine ⟨(by unfold CMul; omega), ?_⟩
  | refine ⟨(by unfold CPow; omega), ?_⟩
  | refine ⟨(by (try dsimp only); omega), ?_⟩
  | refine ⟨(by unfold CDiv; omega), ?_⟩
  | fail "rd1")
local macro_rules | `(tactic| walk_at "rd") => `(tactic| repeat' (walk_at "rd1"))
section
variable {P : Program} {w : World} {K : PySem.W.Frag} {mg : Str → Option Value} {base : Heap} {A : Ad}

/-! ### ascending names -/
def slt (x y : Str) : Prop := x.cps.toList < y.cps.toList
instance (x y : Str) : Decidable (slt x y) := inferInstanceAs (Decidable (x.cps.toList < y.cps.toList))
def sle (x y : Str) : Prop := ¬ slt y x
instance (x y : Str) : Decidable (sle x y) := inferInstanceAs (Decidable (¬ slt y x))
theorem sle_trans {x y z : Str} (a : sle x y) (b : sle y z) : sle x z :=
  fun h => (List.not_lt.mpr (List.le_trans (List.not_lt.mp a) (List.not_lt.mp b))) h
theorem sle_of_lt {x y : Str} (h : slt x y) : sle x y := fun k => List.lt_asymm h k
def rk (t : Str) (acc : List Str) : Nat := (acc.filter fun x => decide (sle x t)).length
theorem rk_le (t : Str) (acc : List Str) : rk t acc ≤ acc.length := List.length_filter_le _ _
theorem rise_perm (t : Str) (acc : List Str) (k : Nat) : (acc.take k ++ [t] ++ acc.drop k).Perm (acc ++ [t]) := by
  have h : (acc.take k ++ [t] ++ acc.drop k).Perm (acc.take k ++ acc.drop k ++ [t]) := by
    rw [List.append_assoc, List.append_assoc]
    exact List.Perm.append_left _ List.perm_append_comm
  rwa [List.take_append_drop] at h
theorem rk_zero {t : Str} : ∀ {acc : List Str}, (∀ x ∈ acc, slt t x) → rk t acc = 0
  | [], _ => rfl
  | x :: r, h => by
    have hx : decide (sle x t) = false := decide_eq_false fun k => k (h x (List.mem_cons_self ..))
    have e := rk_zero fun y hy => h y (List.mem_cons_of_mem _ hy)
    simp only [rk, List.filter_cons, hx] at e ⊢
    exact e
theorem rise_sorted (t : Str) : ∀ {acc : List Str}, acc.Pairwise sle → (acc.take (rk t acc) ++ [t] ++ acc.drop (rk t acc)).Pairwise sle
  | [], _ => by simp [rk]
  | x :: r, h => by
    rw [List.pairwise_cons] at h
    by_cases hx : sle x t
    · have e : rk t (x :: r) = rk t r + 1 := by
        simp only [rk, List.filter_cons, decide_eq_true hx, if_true, List.length_cons]
      rw [e, List.take_succ_cons, List.drop_succ_cons, List.cons_append, List.cons_append, List.pairwise_cons]
      refine ⟨fun y hy => ?_, rise_sorted t h.2⟩
      rcases List.mem_append.mp hy with hy | hy
      · rcases List.mem_append.mp hy with hy | hy
        · exact h.1 y (List.mem_of_mem_take hy)
        · rw [List.mem_singleton.mp hy]; exact hx
      · exact h.1 y (List.mem_of_mem_drop hy)
    · have lt : slt t x := Decidable.byContradiction fun k => hx k
      have e : rk t (x :: r) = 0 := rk_zero fun y hy => by
        rcases List.mem_cons.mp hy with q | q
        · rw [q]; exact lt
        · have := h.1 y q
          exact Decidable.byContradiction fun k => (sle_trans this k) lt
      rw [e, List.take_zero, List.drop_zero, List.nil_append, List.singleton_append, List.pairwise_cons]
      refine ⟨fun y hy => ?_, List.pairwise_cons.mpr h⟩
      rcases List.mem_cons.mp hy with q | q
      · rw [q]; exact sle_of_lt lt
      · exact sle_trans (sle_of_lt lt) (h.1 y q)
theorem str_at {ns : List Str} {i : Nat} {x : V} (h : (ns.map V.str)[i]? = some x) : ∃ hi : i < ns.length, x = V.str ns[i] := by
  have hi : i < ns.length := by
    have := (List.getElem?_eq_some_iff.mp h).1
    rwa [List.length_map] at this
  refine ⟨hi, ?_⟩
  rw [List.getElem?_map, List.getElem?_eq_getElem hi] at h
  exact (Option.some.inj h).symm
theorem take_map {α β : Type} (f : α → β) {xs : List α} {i : Nat} (hi : i < xs.length) : (xs.take (i + 1)).map f = (xs.take i).map f ++ [f xs[i]] := by
  rw [List.take_succ, List.getElem?_eq_getElem hi, List.map_append]; rfl
def spRising (K : PySem.W.Frag) : Sp := fun vs H Q _ => ∃ (t : Addr) (ss : List Str), vs = [.ref t] ∧ SqL K H t (ss.map V.str) ∧ ss.length ≤ 64 ∧
  ∀ (p : Addr) (ys : List Str) (H' : Hp), ys.Perm ss → ys.Pairwise sle → H p = none → Same H H' → H' p = some (.lst (ys.map V.str)) → Q (.ref p) H'
theorem ok_rising (T : Txt K mg A) : FnOk P w K mg base CX0 1 A.a__law_rising A.d__law_rising P__law_rising (spRising K) := by
  refine T.f__law_rising.ok sc__law_rising (fun vs H Q E h => ?_) (fun cdv A' outer s H vs Q E hr h => ?_)
  · obtain ⟨t, ss, rfl, _⟩ := h
    rfl
  · obtain ⟨t, ss, rfl, hS, hl, k⟩ := h
    refine ⟨_, (pss_cons (ps_set (i := 1) sc__law_rising.nd rfl (Or.inl rfl) (pe_lst pa_nil))
 (pss_cons (ps_for PassesOwn.never rfl (pi_list (pv 0)) (pg_name (i := 2) sc__law_rising.nd rfl (Or.inr rfl))
 (pss_one (ps_expr (pe_bm PySem.F.plainAttrs_list PySem.F.slot_list_insert PySem.F.type_list_insert mt_insert (pv 1) (pa_cons (pe_callB call_len_seq (by rfl) T.len PySem.boot_len (pa_cons (pe_lc (own := [("_law_x", 3)]) (g := gName 3) (by rfl) sc__law_rising.nd (pi_list (pv 1)) (blkOk_by (N := N__law_rising) (sc := defScope s__law_rising) (by decide +kernel)) (fun _ _ _ _ _ => pg_name (i := 3) sc__law_rising.nd rfl (Or.inl rfl)) (fun _ _ _ _ _ => pts_one (pt_cmpR op_le_str (pv 3) (pv 2) (nomark _))) (fun _ _ _ _ _ => (pv 3))) pa_nil)) (pa_cons (pv 2) pa_nil))))))
 (pss_one (ps_ret (pv 1))))), ?_⟩
    have same_at : ∀ {p : Addr} {H' : Hp} {o : HO}, H p = none → Same H H' → Same H (upd H' p o) := fun hp s b u e => by
      rw [upd_ne (ne_of_none e hp)]; exact s _ _ e
    refine ⟨Nat.zero_le _, fun p hp => ?_⟩
    refine ⟨_, rfl, t, rfl, ⟨_, sqUp hS (Same.new hp)⟩, for_it (walk_list (K := K) (a := t)) (fun i σ' H' => ∃ x acc, σ' = [some (.ref t), some (.ref p), x, none] ∧ Same H H' ∧ H' p = some (.lst (acc.map V.str)) ∧ acc.Perm (ss.take i) ∧ acc.Pairwise sle)
      ⟨_, [], rfl, Same.new hp, upd_same, List.Perm.refl _, .nil⟩ (fun i σ' H' _ z => sqUp hS z.choose_spec.choose_spec.2.1) ?_ ?_⟩
    · rintro i v σ' H' H'' hi ⟨x, acc, rfl, s1, hacc, hperm, hsort⟩ ⟨rfl, hx⟩
      obtain ⟨hi, rfl⟩ := str_at hx
      have hal : acc.length ≤ 64 := by rw [hperm.length_eq, List.length_take]; omega
      refine ⟨_, rfl, .inl ⟨rfl, _, SqL.of hacc⟩, _, rfl, p, rfl, ⟨_, SqL.of hacc⟩, fun D hD => lc_it (walk_list (K := K) (a := p)) (fun j H3 => Same H'' H3 ∧ H3 D = some (.lst (((acc.take j).filter fun x => decide (sle x ss[i])).map V.str))) ⟨Same.new hD, upd_same⟩ (fun j H3 _ z => SqL.of (z.1 _ _ hacc)) ?_ (fun H3 z => ?_)⟩
      · rintro j y H3 H4 hj ⟨s3, hD3⟩ ⟨rfl, hy⟩
        obtain ⟨hj, rfl⟩ := str_at hy
        have et : (acc.take (j + 1)).filter (fun x => decide (sle x ss[i])) = (acc.take j).filter (fun x => decide (sle x ss[i])) ++ (if sle acc[j] ss[i] then [acc[j]] else []) := by
          rw [List.take_succ, List.getElem?_eq_getElem hj, List.filter_append]
          congr 1
          by_cases e : sle acc[j] ss[i] <;> simp [e]
        have hfl : (((acc.take j).filter fun x => decide (sle x ss[i])).map V.str).length ≤ 64 := by
          rw [List.length_map]
          refine Nat.le_trans (List.length_filter_le _ _) (by rw [List.length_take]; omega)
        refine ⟨rfl, _, rfl, _, rfl, _, _, rfl, rfl, _, rfl, ite2 (fun q => ?_) (fun q => ?_)⟩
        · have e : sle acc[j] ss[i] := fun z => by
            rw [decide_eq_true (show ss[i].cps.toList < acc[j].cps.toList from z)] at q
            cases q
          refine ⟨_, rfl, _, hD3, Nat.lt_of_le_of_lt hfl (by decide), ?_, ?_⟩
          · exact fun b u e => by rw [upd_ne (ne_of_none e hD)]; exact s3 _ _ e
          · rw [upd_same, et, if_pos e, List.map_append]; rfl
        · have e : ¬ sle acc[j] ss[i] := fun z => q (by rw [decide_eq_false (show ¬ ss[i].cps.toList < acc[j].cps.toList from z)]; rfl)
          exact ⟨s3, by rw [et, if_neg e, List.append_nil]; exact hD3⟩
      · obtain ⟨s3, hD3⟩ := z
        rw [List.length_map, List.take_length] at hD3
        have hk := rk_le ss[i] acc
        have ek : (((acc.filter fun x => decide (sle x ss[i])).map V.str).length : Int) = ((rk ss[i] acc : Nat) : Int) := by rw [List.length_map]; rfl
        refine ⟨D, _, rfl, .inl (SqL.of hD3), _, rfl, p, acc.map V.str, _, _, rfl, rfl, s3 _ _ hacc, by rw [List.length_map]; exact Nat.lt_of_le_of_lt hal (by decide), by omega, by omega, ?_⟩
        rw [ek, Int.toNat_natCast]
        refine ⟨_, acc.take (rk ss[i] acc) ++ [ss[i]] ++ acc.drop (rk ss[i] acc), rfl, same_at hp (s1.trans s3), ?_, ?_, rise_sorted ss[i] hsort⟩
        · rw [upd_same, List.map_append, List.map_append, List.map_take, List.map_drop]; rfl
        · rw [List.take_succ, List.getElem?_eq_getElem hi]
          exact (rise_perm _ _ _).trans (hperm.append_right _)
    · rintro σ' H' ⟨x, acc, rfl, s1, hacc, hperm, hsort⟩
      rw [List.length_map, List.take_length] at hperm
      exact ⟨_, rfl, k p acc H' hperm hsort hp s1 hacc⟩
end
end K5
set_option Elab.async false
set_option linter.all false
set_option maxRecDepth 100000
set_option maxHeartbeats 4000000
namespace K5
open PySem L2
local macro_rules | `(tactic| walk_at "rd1") => `(tactic| first
  | refine ⟨_, _, rfl, rfl, ?_⟩
  | refine ⟨_, _, _, _, rfl, rfl, SqL.of (by assumption), rfl, ?_⟩
  | refine ⟨_, _, _, _, rfl, rfl, (by assumption), rfl, ?_⟩
  | refine .inl ⟨_, rfl, ?_⟩
  | refine ⟨_, rfl, ?_⟩
  | refine ⟨(by unfold CMul; omega), ?_⟩
  | refine ⟨(by unfold CPow; omega), ?_⟩
  | refine ⟨(by (try dsimp only); omega), ?_⟩
  | refine ⟨(by unfold CDiv; omega), ?_⟩
  | fail "rd1")
local macro_rules | `(tactic| walk_at "rd") => `(tactic| repeat' (walk_at "rd1"))
section
variable {P : Program} {w : World} {K : PySem.W.Frag} {mg : Str → Option Value} {base : Heap} {A : Ad}

theorem put_new : ∀ (acc : List (Key × V)) (k : Key) (v : V), k ∉ acc.map (·.1) → putK acc k v = acc ++ [(k, v)] := fun acc k v h => by
  unfold putK
  have e : (acc.any fun kv => decide (kv.1 = k)) = false := by
    rw [List.any_eq_false]
    intro p hp q
    exact h (List.mem_map.mpr ⟨p, hp, of_decide_eq_true q⟩)
  rw [e]
  rfl
/-- what is no tuple -/
def NoTup (u : HO) : Prop := (∀ zs, u ≠ .tup zs) ∧ ∀ o zs, u ≠ .frz o (.tup zs)
theorem tupEr {H : Hp} {D a : Addr} {u : HO} {xs : List V} (hD : H D = some u) (hu : NoTup u) (h : SqT K H a xs) : SqT K (er H D) a xs := by
  rcases h with (h | ⟨o, h⟩) | h
  · exact .inl (.inl (er_of (fun e => by rw [e, hD] at h; exact hu.1 _ (Option.some.inj h)) h))
  · exact .inl (.inr ⟨o, er_of (fun e => by rw [e, hD] at h; exact hu.2 _ _ (Option.some.inj h)) h⟩)
  · exact .inr h
theorem tupSet {E : Hp} {p a : Addr} {u o : HO} {xs : List V} (hp : E p = some u) (hu : NoTup u) (h : SqT K E a xs) : SqT K (upd E p o) a xs :=
  stUp (tupEr hp hu h) fun b w e => by rw [upd_ne (er_some e).1]; exact (er_some e).2
theorem noTup_dK (kvs : List (Key × V)) : NoTup (.dK kvs) := ⟨fun _ z => (nomatch z), fun _ _ z => (nomatch z)⟩
theorem not_in_take {ys : List Str} (h : ys.Nodup) {i : Nat} (hi : i < ys.length) : ys[i] ∉ ys.take i := by
  have e : ys.take (i + 1) = ys.take i ++ [ys[i]] := by rw [List.take_succ, List.getElem?_eq_getElem hi]; rfl
  have n : (ys.take i ++ [ys[i]]).Nodup := by rw [← e]; exact h.sublist (List.take_sublist _ _)
  rw [List.nodup_append] at n
  exact fun m => n.2.2 _ m _ (List.mem_singleton.mpr rfl) rfl
def spWith : Sp := fun vs H Q _ => ∃ (d : Addr) (k : Key) (v : V) (kvs : List (Key × V)), vs = [.ref d, kV k, v] ∧ Rd H d (.dK kvs) ∧ kvs.length ≤ 1000 ∧
  ∀ (p : Addr) (H' : Hp), H p = none → Same H H' → H' p = some (.dK (putK kvs k v)) → Q (.ref p) H'
theorem ok_with (T : Txt K mg A) : FnOk P w K mg base CX0 1 A.a__law_with A.d__law_with P__law_with spWith := by
  refine T.f__law_with.ok sc__law_with (fun vs H Q E h => ?_) (fun cdv A' outer s H vs Q E hr h => ?_)
  · obtain ⟨d, k, v, kvs, rfl, _⟩ := h
    rfl
  · obtain ⟨d, key, v, kvs, rfl, hd, hl, k⟩ := h
    refine ⟨_, (pss_cons (ps_set (i := 3) sc__law_with.nd rfl (Or.inl rfl) (pe_callTy call_dictD (by rfl) T.dict (by decide +kernel) (pa_cons (pv 0) pa_nil)))
 (pss_cons (ps_dput (hu_of hr) (pv 3) (pv 1) (pv 2) rfl)
 (pss_one (ps_ret (pv 3))))), ?_⟩
    refine ⟨_, rfl, d, kvs, rfl, hd, fun p hp => ?_⟩
    refine ⟨_, rfl, _, rfl, _, rfl, p, _, rfl, .inl ⟨kvs, key, upd_same, rfl, Nat.lt_of_le_of_lt hl (by decide), rfl⟩, _, rfl, k p _ hp ?_ upd_same⟩
    exact fun b u e => by rw [upd_ne (ne_of_none e hp), upd_ne (ne_of_none e hp)]; exact e
end
end K5
set_option Elab.async false
set_option linter.all false
set_option maxRecDepth 100000
set_option maxHeartbeats 4000000
namespace K5
open PySem L2
local macro_rules | `(tactic| walk_at "rd1") => `(tactic| first
  | refine ⟨_, _, rfl, rfl, ?_⟩
  | refine ⟨_, _, _, _, rfl, rfl, SqL.of (by assumption), rfl, ?_⟩
  | refine ⟨_, _, _, _, rfl, rfl, (by assumption), rfl, ?_⟩
  | refine .inl ⟨_, rfl, ?_⟩
  | refine ⟨_, rfl, ?_⟩
  | refine ⟨(by unfold CMul; omega), ?_⟩
  | refine ⟨(by unfold CPow; omega), ?_⟩
  | refine ⟨(by (try dsimp only); omega), ?_⟩
  | refine ⟨(by unfold CDiv; omega), ?_⟩
  | fail "rd1")
local macro_rules | `(tactic| walk_at "rd") => `(tactic| repeat' (walk_at "rd1"))
section
variable {P : Program} {w : World} {K : PySem.W.Frag} {mg : Str → Option Value} {base : Heap} {A : Ad}

/-! ### rows: what each name hangs on -/
abbrev Rows := List (Str × Str)
def kvR (rows : Rows) : List (Key × V) := rows.map fun r => (.inr r.1, .str r.2)
def ksR (rows : Rows) : List Str := rows.map (·.1)
/-- each hangs on the clock or on one ahead of it -/
def Tree (rows : Rows) : Prop := ∀ (i : Nat) (k h : Str), rows[i]? = some (k, h) → h = "clock" ∨ h ∈ ksR (rows.take i)
theorem kvR_keys (rows : Rows) : (kvR rows).map (·.1) = (ksR rows).map Sum.inr := by simp [kvR, ksR]
theorem kvR_len (rows : Rows) : (kvR rows).length = rows.length := by simp [kvR]
theorem kvR_app (rows : Rows) (k h : Str) : kvR (rows ++ [(k, h)]) = kvR rows ++ [(.inr k, .str h)] := by simp [kvR]
theorem ksR_app (rows : Rows) (k h : Str) : ksR (rows ++ [(k, h)]) = ksR rows ++ [k] := by simp [ksR]
theorem Tree.nil : Tree [] := fun i k h e => by simp at e
theorem Tree.app {rows : Rows} {k h : Str} (t : Tree rows) (hh : h = "clock" ∨ h ∈ ksR rows) : Tree (rows ++ [(k, h)]) := fun i k' h' e => by
  rcases Nat.lt_or_ge i rows.length with lt | ge
  · rw [List.getElem?_append_left lt] at e
    rw [List.take_append_of_le_length (Nat.le_of_lt lt)]
    exact t i k' h' e
  · rw [List.getElem?_append_right ge] at e
    have e0 : i - rows.length = 0 := by
      rcases Nat.eq_zero_or_pos (i - rows.length) with z | z
      · exact z
      · rw [List.getElem?_eq_none (by simp; omega)] at e; cases e
    rw [e0] at e
    cases e
    have : i = rows.length := by omega
    subst this
    rw [List.take_append_of_le_length (Nat.le_refl _), List.take_length]
    exact hh
def spHung (K : PySem.W.Frag) : Sp := fun vs H Q _ => ∃ (st c t : Addr) (ns : List Str) (b : Int), vs = [.ref st, .ref t] ∧ Sta H st c b ∧ b + 130 ≤ 1000000 ∧ SqL K (er H st) t (ns.map V.str) ∧ ns.length ≤ 64 ∧ ns.Nodup ∧ (∀ s ∈ ns, PyData.strOk s = true) ∧
  ∀ (p : Addr) (rows : Rows) (H' : Hp), (ksR rows).Perm ns → Tree rows → Gs st c H H' (b + 130) → er H' st p = some (.dK (kvR rows)) → er H st p = none → Q (.ref p) H'
theorem ok_hung (T : Txt K mg A) : FnOk P w K mg base CX0 3 A.a__law_hung A.d__law_hung P__law_hung (spHung K) := by
  have G__law_mix : FnOk P w K mg base CX0 2 A.a__law_mix A.d__law_mix P__law_mix (spMix K) := ok_mix T
  have G__law_one : FnOk P w K mg base CX0 2 A.a__law_one A.d__law_one P__law_one (spOne K) := ok_one T
  refine T.f__law_hung.ok sc__law_hung (fun vs H Q E h => ?_) (fun cdv A' outer s H vs Q E hr h => ?_)
  · obtain ⟨st, c, t, ns, b, rfl, _⟩ := h
    rfl
  · obtain ⟨st, c, t, ns, b, rfl, S, hb, hS, hl, hnd, hok, k⟩ := h
    refine ⟨_, (pss_cons (ps_par (i := 2) (j := 3) (by rfl) sc__law_hung.nd rfl rfl (by decide) rfl rfl (pa_cons (pe_call G__law_mix (hr.mono (by omega)) (by rfl) T.g__law_mix T.f__law_mix.kp T.b__law_mix .nil pass0 (pa_cons (pv 0) (pa_cons (pv 1) pa_nil))) (pa_cons pe_dnewK pa_nil)) (by rfl))
 (pss_cons (ps_for PassesOwn.never rfl (pi_enum (by rfl) T.enumerate (pa_cons (pv 2) pa_nil)) (pg_tup (by rfl) (pgs_cons (pg_name (i := 4) sc__law_hung.nd rfl (Or.inl rfl)) (pgs_cons (pg_name (i := 5) sc__law_hung.nd rfl (Or.inl rfl)) pgs_nil)))
 (pss_one (ps_dput (hu_of hr) (pv 3) (pv 5) (pe_call G__law_one (hr.mono (by omega)) (by rfl) T.g__law_one T.f__law_one.kp T.b__law_one .nil pass0 (pa_cons (pv 0) (pa_cons (pe_op op_cat (pe_lst (pa_cons pe_str pa_nil)) (pe_slice sl_list (pv 2) po_none (po_some (pv 4)))) pa_nil))) rfl)))
 (pss_one (ps_ret (pv 3))))), ?_⟩
    refine ⟨_, rfl, _, rfl, st, c, t, ns, b, rfl, S, by omega, hS, hl, hok, fun q ys H1 hperm g1 hq hq0 => fun p hp => ⟨_, _, rfl, ?_⟩⟩
    have yN : ys.Nodup := hperm.nodup_iff.mpr hnd
    have yl : ys.length ≤ 64 := by rw [hperm.length_eq]; exact hl
    have mp := g1.sta.ne hp
    have ep : er H st p = none := g1.same.free (er_none hp)
    have g2 := g1.new hp (o := .dK [])
    have npq : p ≠ q := (ne_of_none ((er_same _ _) _ _ hq) hp).symm
    have hq2 := er_mono (st := st) (Same.new (o := .dK []) hp) _ _ hq
    have hp2 : er (upd H1 p (.dK [])) st p = some (.dK []) := er_of mp upd_same
    generalize upd H1 p (.dK []) = H2 at g2 hq2 hp2 ⊢
    refine ⟨_, rfl, q, _, rfl, SqL.of ((er_same _ _) _ _ hq2), for_it walk_enum (fun i σ' H' => ∃ x y rows, σ' = [some (.ref st), some (.ref t), some (.ref q), some (.ref p), x, y] ∧ Gs st c H H' (b + 64 + (i : Int)) ∧ er H' st q = some (.lst (ys.map V.str)) ∧ er H' st p = some (.dK (kvR rows)) ∧ ksR rows = ys.take i ∧ Tree rows)
      ⟨_, _, [], rfl, by simpa using g2, hq2, hp2, rfl, Tree.nil⟩ (fun i σ' H' _ z => SqL.of ((er_same _ _) _ _ z.choose_spec.choose_spec.choose_spec.2.2.1)) ?_ ?_⟩
    · rintro i x σ' H' H'' hi ⟨_, _, rows, rfl, g, hq3, hp3, hks, hT⟩ ⟨Tt, u, v, rfl, hTt, rfl, hu, hv⟩
      have eu : u = .int (i : Nat) := (Option.some.inj hu).symm
      subst eu
      obtain ⟨hi, rfl⟩ := str_at hv
      have g3 := g.new hTt (o := .tup [.int (i : Nat), .str ys[i]])
      have s3 : Same (er H' st) (er (upd H' Tt (.tup [.int (i : Nat), .str ys[i]])) st) := er_mono (Same.new hTt)
      refine ⟨Tt, _, rfl, SqT.of upd_same, rfl, _, _, rfl, _, _, rfl, rfl, ?_⟩
      have hq3 := s3 _ _ hq3
      have hp3 := s3 _ _ hp3
      generalize upd H' Tt (.tup [.int (i : Nat), .str ys[i]]) = H3 at g3 hq3 hp3 ⊢
      refine ⟨_, rfl, by show 1 ≤ sizeLine; decide, fun e he => ⟨_, rfl, _, rfl, _, rfl, _, _, rfl, SqL.of (Same.new he _ _ ((er_same _ _) _ _ hq3)), fun d hd => ?_⟩⟩
      have ec : cutV (ys.map V.str) none (some ((i : Nat) : Int)) = (ys.take i).map V.str := by
        unfold cutV
        rw [HT.sIx_none, HT.sIx_nat, List.drop_zero, Nat.sub_zero, List.map_take, List.length_map, Nat.min_eq_left (Nat.le_of_lt hi)]
      rw [ec]
      have g4 := (g3.new he (o := .lst [.str "clock"])).new hd (o := .lst ((ys.take i).map V.str))
      have h1 : upd (upd H3 e (.lst [.str "clock"])) d (.lst ((ys.take i).map V.str)) e = some (.lst [.str "clock"]) := by rw [upd_ne (ne_of_none upd_same hd), upd_same]
      have s4 : Same (er H3 st) (er (upd (upd H3 e (.lst [.str "clock"])) d (.lst ((ys.take i).map V.str))) st) := (er_mono (Same.new he)).trans (er_mono (Same.new hd))
      have h2 : upd (upd H3 e (.lst [.str "clock"])) d (.lst ((ys.take i).map V.str)) d = some (.lst ((ys.take i).map V.str)) := upd_same
      generalize upd (upd H3 e (.lst [.str "clock"])) d (.lst ((ys.take i).map V.str)) = H4 at g4 h1 h2 s4 ⊢
      have hil : (ys.take i).length ≤ 64 := by rw [List.length_take]; omega
      refine ⟨_, _, _, _, rfl, rfl, h1, h2, by show _ ≤ sizeLine; rw [List.length_map, List.length_singleton]; exact Nat.le_trans (show 1 + (ys.take i).length ≤ 65 by omega) (by decide), fun l hl => ?_⟩
      have ml := g4.sta.ne hl
      have g5 := g4.new hl (o := .lst ([.str "clock"] ++ (ys.take i).map V.str))
      have s5 := s4.trans (er_mono (st := st) (Same.new (o := .lst ([.str "clock"] ++ (ys.take i).map V.str)) hl))
      refine ⟨st, c, l, _, _, rfl, g5.sta, by omega, SqL.of (er_of ml upd_same), by simp, by simp; omega, fun j v H5 hv g6 => ?_⟩
      obtain ⟨h, rfl, hh⟩ : ∃ h : Str, v = V.str h ∧ (h = "clock" ∨ h ∈ ys.take i) := by
        have hm := List.mem_of_getElem? hv
        rcases List.mem_append.mp hm with z | z
        · exact ⟨_, List.mem_singleton.mp z, .inl rfl⟩
        · obtain ⟨h, hh, e⟩ := List.mem_map.mp z
          exact ⟨h, e.symm, .inr hh⟩
      have s6 := s5.trans g6.same
      have hp6 := s6 _ _ hp3
      have hq6 := s6 _ _ hq3
      have g7 := (g5.trans g6)
      have kl : rows.length = i := by
        have := congrArg List.length hks
        rw [ksR, List.length_map, List.length_take] at this
        omega
      have hk : (Sum.inr ys[i] : Key) ∉ (kvR rows).map (·.1) := by
        rw [kvR_keys, hks]
        intro m
        obtain ⟨z, hz, ez⟩ := List.mem_map.mp m
        exact not_in_take yN hi (by rw [← Sum.inr.inj ez]; exact hz)
      refine ⟨_, rfl, _, rfl, p, _, rfl, .inl ⟨kvR rows, .inr ys[i], (er_same _ _) _ _ hp6, rfl, by rw [kvR_len, kl]; exact Nat.lt_of_lt_of_le (show i < 65 by omega) (by decide), rfl⟩, ?_⟩
      rw [put_new _ _ _ hk, ← kvR_app]
      refine ⟨_, _, rows ++ [(ys[i], h)], rfl, (g7.le (by omega) (by omega)).set S.hc ep mp, ?_, ?_, ?_, hT.app (by rw [hks]; exact hh)⟩
      · rw [er_updp mp, upd_ne npq.symm]; exact hq6
      · rw [er_updp mp, upd_same]
      · rw [ksR_app, hks, List.take_succ, List.getElem?_eq_getElem hi]; rfl
    · rintro σ' H' ⟨x, y, rows, rfl, g, hq3, hp3, hks, hT⟩
      rw [List.length_map, List.take_length] at hks
      exact ⟨_, rfl, k p rows H' (by rw [hks]; exact hperm) hT (g.le (by rw [List.length_map]; omega) (by omega)) hp3 ep⟩
end
end K5
set_option Elab.async false
set_option linter.all false
set_option maxRecDepth 100000
set_option maxHeartbeats 4000000
namespace K5
open PySem L2
local macro_rules | `(tactic| walk_at "rd1") => `(tactic| first
  | refine ⟨_, _, rfl, rfl, ?_⟩
  | refine ⟨_, _, _, _, rfl, rfl, SqL.of (by assumption), rfl, ?_⟩
  | refine ⟨_, _, _, _, rfl, rfl, (by assumption), rfl, ?_⟩
  | refine .inl ⟨_, rfl, ?_⟩
  | refine ⟨_, rfl, ?_⟩
  | refine ⟨(by unfold CMul; omega), ?_⟩
  | refine ⟨(by unfold CPow; omega), ?_⟩
  | refine ⟨(by (try dsimp only); omega), ?_⟩
  | refine ⟨(by unfold CDiv; omega), ?_⟩
  | fail "rd1")
local macro_rules | `(tactic| walk_at "rd") => `(tactic| repeat' (walk_at "rd1"))
section
variable {P : Program} {w : World} {K : PySem.W.Frag} {mg : Str → Option Value} {base : Heap} {A : Ad}

def letters : Str := "abcdefghijklmnopqrstuvwxyz"
structure Nm (s : Str) : Prop where
  noclock : s ≠ "clock"
  pos : 1 ≤ s.length
  most : s.length ≤ 8
  low : ∀ c ∈ s.cps.toList, c ∈ letters.cps.toList
theorem nm_dec {xs : List Str} (h : (xs.all fun s => (decide (s ≠ "clock") && (decide (1 ≤ s.length) && (decide (s.length ≤ 8) && s.cps.toList.all fun c => decide (c ∈ letters.cps.toList))))) = true) : ∀ s ∈ xs, Nm s := by
  intro s hs
  have := List.all_eq_true.mp h s hs
  simp only [Bool.and_eq_true, decide_eq_true_eq, List.all_eq_true] at this
  exact ⟨this.1, this.2.1, this.2.2.1, this.2.2.2⟩
theorem pool_nm : ∀ s ∈ pool, Nm s := nm_dec (by decide +kernel)
theorem qq_nm : Nm "qq" := nm_dec (xs := ["qq"]) (by decide +kernel) _ (List.mem_singleton.mpr rfl)
def spIsName : Sp := fun vs H Q _ => ∃ (s : Str), vs = [.str s] ∧ Nm s ∧ ∀ H', Same H H' → Q (.bl true) H'
theorem ok_isname (T : Txt K mg A) : FnOk P w K mg base CX0 1 A.a_is_name A.d_is_name P_is_name spIsName := by
  refine T.f_is_name.ok sc_is_name (fun vs H Q E h => ?_) (fun cdv A' outer s H vs Q E hr h => ?_)
  · obtain ⟨s, rfl, _⟩ := h
    rfl
  · obtain ⟨z, rfl, N, k⟩ := h
    refine ⟨_, (pss_cons (ps_if (PW.pt (pw_or (pt_not (pt_val (pe_callB call_isi (by rfl) T.isinstance (by decide +kernel) (pa_cons (pv 0) (pa_cons (pe_bltn (v := .ty "str") (u := .type "str") (by rfl) T.str (by decide +kernel) rfl) pa_nil))))) (pw_or1 (pt_cmpR op_eq (pv 0) (pe_glob (v := .str "clock") (by rfl) T.g_CLOCK.choose_spec ⟨_, rfl⟩) (nomark _)))))
 (pss_one (ps_ret pe_bl))
 pss_nil)
 (pss_one (ps_ret (pe_and (pe_chain op_le op_le pe_int (pe_callB call_len_str (by rfl) T.len PySem.boot_len (pa_cons (pv 0) pa_nil)) (pe_glob (v := .int 8) (by rfl) T.g_LONGEST_NAME.choose_spec ⟨_, rfl⟩)) (pe_one (pe_callB (cr_all rfl) (by rfl) T.all (by decide +kernel) (pa_cons (pe_lc (own := [("sign", 1)]) (g := gName 1) (by rfl) sc_is_name.nd (pi_str (pv 0)) (blkOk_by (N := N_is_name) (sc := defScope s_is_name) (by decide +kernel)) (fun _ _ _ _ _ => pg_name (i := 1) sc_is_name.nd rfl (Or.inl rfl)) (fun _ _ _ _ _ => pts_nil) (fun _ _ _ _ _ => (pe_cmpR op_in_sign (pv 1) (pe_glob (v := .str "abcdefghijklmnopqrstuvwxyz") (by rfl) T.g_LETTERS.choose_spec ⟨_, rfl⟩) (by rfl)))) pa_nil))))))), ?_⟩
    refine ⟨_, rfl, _, _, .type "str", _, true, rfl, .ty _, .base (.str _), kit_ty (by decide +kernel), _, rfl, iteF ?_⟩
    refine ⟨_, rfl, rfl, _, rfl, ite2 (fun q => absurd (of_decide_eq_true q) (fun q => N.noclock (V.str.inj q))) (fun _ => ?_)⟩
    have l8 := N.most
    have l1 := N.pos
    have hsz : z.length ≤ sizeLine := Nat.le_trans l8 (by decide)
    refine ⟨_, rfl, z, rfl, hsz, _, _, rfl, rfl, _, rfl, ite2 (fun _ => ?_) (fun q => (q (decide_eq_true (by omega))).elim)⟩
    refine ⟨_, _, rfl, rfl, _, rfl, ite2 (fun _ => ?_) (fun q => (q (decide_eq_true (by omega))).elim)⟩
    refine ⟨_, rfl, z, rfl, fun D hD => lc_it walk_str (fun i H' => Same H H' ∧ H' D = some (.lst ((List.replicate i true).map V.bl))) ⟨Same.new hD, upd_same⟩ (fun _ _ _ _ => trivial) ?_ (fun H' q => ?_)⟩
    · rintro i x H' H'' hi ⟨s1, hD'⟩ ⟨rfl, c, hc, rfl⟩
      have hm : c ∈ z.cps.toList := by
        have := Array.mem_of_getElem? hc
        exact Array.mem_toList_iff.mpr this
      have e1 : decide (c ∈ letters.cps.toList) = true := decide_eq_true (N.low c hm)
      refine ⟨rfl, _, rfl, c, letters, rfl, rfl, _, hD', by rw [List.length_map, List.length_replicate]; exact Nat.lt_of_lt_of_le hi hsz, ?_, ?_⟩
      · exact fun b u e => by rw [upd_ne (ne_of_none e hD)]; exact s1 _ _ e
      · rw [upd_same, e1, List.replicate_succ', List.map_append]; rfl
    · refine ⟨D, _, rfl, SqL.of q.2, ?_⟩
      rw [all_true]
      exact k _ q.1
theorem rdUp {H H' : Hp} {d : Addr} {u : HO} (h : Rd H d u) (s : Same H H') : Rd H' d u := h.elim (fun q => .inl (s _ _ q)) (fun ⟨o, q⟩ => .inr ⟨o, s _ _ q⟩)
/-- is_dish of a text, or of what is none -/
def spIsDish (K : PySem.W.Frag) : Sp := fun vs H Q _ => ∃ (x : V) (dd : Addr) (kvs : List (Key × V)), vs = [x, .ref dd] ∧ Rd H dd (.dK kvs) ∧
  ((∃ s, x = .str s ∧ Q (.bl (valV kvs (.inr s)).isSome) H) ∨ ∃ t, TyX K H x (.type t) ∧ kitB t "str" = some false ∧ Q (.bl false) H)
theorem ok_isdish (T : Txt K mg A) : FnOk P w K mg base CX0 1 A.a_is_dish A.d_is_dish P_is_dish (spIsDish K) := by
  refine T.f_is_dish.ok sc_is_dish (fun vs H Q E h => ?_) (fun cdv A' outer s H vs Q E hr h => ?_)
  · obtain ⟨s, dd, kvs, rfl, _⟩ := h
    rfl
  · obtain ⟨x, dd, kvs, rfl, hd, h⟩ := h
    refine ⟨_, (pss_one (ps_ret (pe_and (pe_callB call_isi (by rfl) T.isinstance (by decide +kernel) (pa_cons (pv 0) (pa_cons (pe_bltn (v := .ty "str") (u := .type "str") (by rfl) T.str (by decide +kernel) rfl) pa_nil))) (pe_one (pe_cmp (pc_din (hu_of hr) (pv 0) (pv 1)) rfl))))), ?_⟩
    rcases h with ⟨z, rfl, k⟩ | ⟨t, ht, hk, k⟩
    · exact ⟨_, rfl, _, _, .type "str", _, true, rfl, .ty _, .base (.str _), kit_ty (by decide +kernel), _, rfl, iteT ⟨_, rfl, _, rfl, dd, _, rfl, .inl ⟨kvs, .inr z, hd, rfl, rfl⟩, k⟩⟩
    · exact ⟨_, rfl, _, _, .type t, _, false, rfl, .ty _, ht, kit_ty hk, _, rfl, iteF k⟩
/-- alike, of two texts -/
def spAlike : Sp := fun vs H Q _ => ∃ (a b : Str), vs = [.str a, .str b] ∧ Q (.bl (decide (V.str a = V.str b))) H
theorem ok_alike (T : Txt K mg A) : FnOk P w K mg base CX0 1 A.a_alike A.d_alike P_alike spAlike := by
  have G_alike : FnOk P w K mg base CX0 0 A.a_alike A.d_alike P_alike (fun _ _ _ _ => False) := no_fn fun _ _ _ _ h => h
  refine T.f_alike.ok sc_alike (fun vs H Q E h => ?_) (fun cdv A' outer s H vs Q E hr h => ?_)
  · obtain ⟨a, b, rfl, _⟩ := h
    rfl
  · obtain ⟨a, b, rfl, k⟩ := h
    refine ⟨_, (pss_cons (ps_if (PW.pt (pw_and (pt_val (pe_callB call_isi (by rfl) T.isinstance (by decide +kernel) (pa_cons (pv 0) (pa_cons (pe_bltn (v := .ty "tuple") (u := .type "tuple") (by rfl) T.tuple (by decide +kernel) rfl) pa_nil)))) (pw_and1 (pt_val (pe_callB call_isi (by rfl) T.isinstance (by decide +kernel) (pa_cons (pv 1) (pa_cons (pe_bltn (v := .ty "tuple") (u := .type "tuple") (by rfl) T.tuple (by decide +kernel) rfl) pa_nil)))))))
 (pss_cons (ps_if (pt_cmpR op_ne (pe_callB call_len_seq (by rfl) T.len PySem.boot_len (pa_cons (pv 0) pa_nil)) (pe_callB call_len_seq (by rfl) T.len PySem.boot_len (pa_cons (pv 1) pa_nil)) (nomark _))
 (pss_one (ps_ret pe_bl))
 pss_nil)
 (pss_one (ps_ret (pe_callB (cr_all rfl) (by rfl) T.all (by decide +kernel) (pa_cons (pe_lc (own := [("mine", 2), ("yours", 3)]) (g := gTup K 2 (gCons (gName 2) (gCons (gName 3) gNil))) (by rfl) sc_alike.nd (pi_zip (by rfl) T.zip (pa_cons (pv 0) (pa_cons (pv 1) pa_nil))) (blkOk_by (N := N_alike) (sc := defScope s_alike) (by decide +kernel)) (fun _ _ _ _ _ => (pg_tup rfl (pgs_cons (pg_name (i := 2) sc_alike.nd rfl (Or.inl rfl)) (pgs_cons (pg_name (i := 3) sc_alike.nd rfl (Or.inl rfl)) pgs_nil)))) (fun _ _ _ _ _ => pts_nil) (fun _ _ _ _ _ => (pe_call G_alike (hr.mono (by omega)) (by rfl) T.g_alike T.f_alike.kp T.b_alike .nil pass0 (pa_cons (pv 2) (pa_cons (pv 3) pa_nil))))) pa_nil)))))
 pss_nil)
 (pss_one (ps_ret (pe_and (pe_cmpR op_eq (pe_callB call_isi (by rfl) T.isinstance (by decide +kernel) (pa_cons (pv 0) (pa_cons (pe_bltn (v := .ty "bool") (u := .type "bool") (by rfl) T.bool (by decide +kernel) rfl) pa_nil))) (pe_callB call_isi (by rfl) T.isinstance (by decide +kernel) (pa_cons (pv 1) (pa_cons (pe_bltn (v := .ty "bool") (u := .type "bool") (by rfl) T.bool (by decide +kernel) rfl) pa_nil))) (nomark _)) (pe_one (pe_cmpR op_eq (pv 0) (pv 1) (nomark _))))))), ?_⟩
    refine ⟨_, rfl, _, _, .type "str", _, false, rfl, .ty _, .base (.str _), kit_ty (by decide +kernel), _, rfl, iteF ?_⟩
    refine ⟨_, rfl, _, _, .type "str", _, false, rfl, .ty _, .base (.str _), kit_ty (by decide +kernel), _, rfl, _, _, .type "str", _, false, rfl, .ty _, .base (.str _), kit_ty (by decide +kernel), rfl, _, rfl, iteT ⟨_, rfl, _, rfl, rfl, ?_⟩⟩
    exact k
end
end K5
set_option Elab.async false
set_option linter.all false
set_option maxRecDepth 100000
set_option maxHeartbeats 4000000
namespace K5
open PySem L2
local macro_rules | `(tactic| walk_at "rd1") => `(tactic| first
  | refine ⟨_, _, rfl, rfl, ?_⟩
  | refine ⟨_, _, _, _, rfl, rfl, SqL.of (by assumption), rfl, ?_⟩
  | refine ⟨_, _, _, _, rfl, rfl, (by assumption), rfl, ?_⟩
  | refine .inl ⟨_, rfl, ?_⟩
  | refine ⟨_, rfl, ?_⟩
  | refine ⟨(by unfold CMul; omega), ?_⟩
  | refine ⟨(by unfold CPow; omega), ?_⟩
  | refine ⟨(by (try dsimp only); omega), ?_⟩
  | refine ⟨(by unfold CDiv; omega), ?_⟩
  | fail "rd1")
local macro_rules | `(tactic| walk_at "rd") => `(tactic| repeat' (walk_at "rd1"))
section
variable {P : Program} {w : World} {K : PySem.W.Frag} {mg : Str → Option Value} {base : Heap} {A : Ad}

theorem valV_at : ∀ {kvs : List (Key × V)} {i : Nat} {k : Key} {v : V}, (kvs.map (·.1)).Nodup → kvs[i]? = some (k, v) → valV kvs k = some v
  | p :: r, 0, k, v, _, h => by
    have e : p = (k, v) := Option.some.inj h
    rw [valV_pos (by rw [e]), e]
  | p :: r, i + 1, k, v, hN, h => by
    have hr : r[i]? = some (k, v) := h
    rw [List.map_cons, List.nodup_cons] at hN
    rw [valV_neg (fun e => hN.1 (by rw [e]; exact List.mem_map.mpr ⟨(k, v), List.mem_of_getElem? hr, rfl⟩))]
    exact valV_at hN.2 hr
  | [], i, k, v, _, h => by simp at h
/-- each hangs on the clock or on one of a lesser rank -/
def Acy (rk : Str → Nat) (rows : Rows) : Prop := ∀ k h : Str, (k, h) ∈ rows → h = "clock" ∨ (h ∈ ksR rows ∧ rk h < rk k)
structure ROk (rk : Str → Nat) (rows : Rows) : Prop where
  nd : (ksR rows).Nodup
  nm : ∀ s ∈ ksR rows, Nm s ∧ PyData.strOk s = true
  len : rows.length < 64
  acy : Acy rk rows
  rkb : ∀ s ∈ ksR rows, rk s < 64
theorem ksR_len (rows : Rows) : (ksR rows).length = rows.length := by simp [ksR]
theorem kvR_nd {rows : Rows} (h : (ksR rows).Nodup) : ((kvR rows).map (·.1)).Nodup := by
  rw [kvR_keys]
  exact List.pairwise_map.mpr (h.imp fun n e => n (Sum.inr.inj e))
theorem kvR_at {rows : Rows} {i : Nat} {k : Key} {v : V} (h : (kvR rows)[i]? = some (k, v)) : ∃ a b : Str, k = .inr a ∧ v = .str b ∧ rows[i]? = some (a, b) := by
  unfold kvR at h
  rw [List.getElem?_map] at h
  cases e : rows[i]? with
  | none => rw [e] at h; cases h
  | some r => rw [e] at h; cases h; exact ⟨r.1, r.2, rfl, rfl, rfl⟩
theorem valR {rows : Rows} (nd : (ksR rows).Nodup) {k h : Str} (m : (k, h) ∈ rows) : valV (kvR rows) (.inr k) = some (.str h) := by
  obtain ⟨i, hi, e⟩ := List.getElem_of_mem m
  have : (kvR rows)[i]? = some (.inr k, .str h) := by
    unfold kvR
    rw [List.getElem?_map, List.getElem?_eq_getElem hi, e]; rfl
  exact valV_at (kvR_nd nd) this
theorem memR {rows : Rows} {k : Str} (m : k ∈ ksR rows) : ∃ h, (k, h) ∈ rows := by
  obtain ⟨r, hr, e⟩ := List.mem_map.mp m
  exact ⟨r.2, by rw [← e]; exact hr⟩
theorem memK {rows : Rows} {k h : Str} (m : (k, h) ∈ rows) : k ∈ ksR rows := List.mem_map.mpr ⟨_, m, rfl⟩
theorem memSnd {rows : Rows} (nd : (ksR rows).Nodup) {k h h' : Str} (m : (k, h) ∈ rows) (m' : (k, h') ∈ rows) : h = h' := by
  have a := valR nd m
  rw [valR nd m'] at a
  cases a
  rfl
/-! ### the checks -/
def spHook : Sp := fun vs H Q _ => ∃ (h : Str) (d : Addr) (od : Obj) (kvs : List (Key × V)) (ks : List Str), vs = [.str h, .ref d] ∧ H d = some (.frz od (.dK kvs)) ∧ kvs.map (·.1) = ks.map Sum.inr ∧ ks.length < 64 ∧ (h = "clock" ∨ h ∈ ks) ∧ ∀ H', Same H H' → Q (.bl true) H'
theorem ok_hook (T : Txt K mg A) : FnOk P w K mg base CX0 2 A.a_is_hook A.d_is_hook P_is_hook spHook := by
  have G_alike : FnOk P w K mg base CX0 1 A.a_alike A.d_alike P_alike spAlike := ok_alike T
  refine T.f_is_hook.ok sc_is_hook (fun vs H Q E h => ?_) (fun cdv A' outer s H vs Q E hr h => ?_)
  · obtain ⟨h, d, od, kvs, ks, rfl, _⟩ := h
    rfl
  · obtain ⟨h, d, od, kvs, ks, rfl, hd, hks, hl, hh, k⟩ := h
    refine ⟨_, (pss_one (ps_ret (pe_or (pe_cmpR op_eq (pv 0) (pe_glob (v := .str "clock") (by rfl) T.g_CLOCK.choose_spec ⟨_, rfl⟩) (nomark _)) (pe_one (pe_callB (cr_any rfl) (by rfl) T.any (by decide +kernel) (pa_cons (pe_lc (own := [("key", 2)]) (g := gName 2) (by rfl) sc_is_hook.nd (pi_keys (pv 1)) (blkOk_by (N := N_is_hook) (sc := defScope s_is_hook) (by decide +kernel)) (fun _ _ _ _ _ => pg_name (i := 2) sc_is_hook.nd rfl (Or.inl rfl)) (fun _ _ _ _ _ => pts_nil) (fun _ _ _ _ _ => (pe_call G_alike (hr.mono (by omega)) (by rfl) T.g_alike T.f_alike.kp T.b_alike .nil pass0 (pa_cons (pv 0) (pa_cons (pv 2) pa_nil))))) pa_nil)))))), ?_⟩
    refine ⟨_, rfl, rfl, _, rfl, ite2 (fun q => k _ (Same.refl _)) (fun q => ?_)⟩
    have hm : h ∈ ks := hh.resolve_left fun e => q (by rw [e]; rfl)
    have hlen : kvs.length = ks.length := by have := congrArg List.length hks; rwa [List.length_map, List.length_map] at this
    refine ⟨_, rfl, d, od, rfl, .inl ⟨kvs, hd, fun D hD => lc_it walk_keys (fun i H' => Same H H' ∧ H' D = some (.lst (((ks.take i).map fun k => decide (V.str h = V.str k)).map V.bl))) ⟨Same.new hD, upd_same⟩ (fun i H' _ z => z.1 _ _ hd) ?_ (fun H' z => ?_)⟩⟩
    · rintro i x H' H'' hi ⟨s1, hD'⟩ ⟨rfl, key, v, hk, rfl⟩
      have hi2 : i < ks.length := by rw [← hlen]; exact hi
      have ek : (kvs.map (·.1))[i]? = some key := by rw [List.getElem?_map, hk]; rfl
      rw [hks, List.getElem?_map, List.getElem?_eq_getElem hi2] at ek
      obtain rfl : Sum.inr ks[i] = key := Option.some.inj ek
      refine ⟨rfl, _, rfl, _, rfl, h, ks[i], rfl, _, hD', ?_, ?_, ?_⟩
      · rw [List.length_map, List.length_map, List.length_take]
        exact Nat.lt_of_le_of_lt (show min i _ ≤ 64 by omega) (by decide)
      · exact fun b u e => by rw [upd_ne (ne_of_none e hD)]; exact s1 _ _ e
      · rw [upd_same, List.take_succ, List.getElem?_eq_getElem hi2, List.map_append, List.map_append]; rfl
    · obtain ⟨s1, hD'⟩ := z
      refine ⟨D, _, rfl, SqL.of hD', ?_⟩
      have e : (((ks.take kvs.length).map fun k => decide (V.str h = V.str k)).any id) = true := by
        rw [List.take_of_length_le (by omega), List.any_map, List.any_eq_true]
        exact ⟨h, hm, decide_eq_true rfl⟩
      rw [e]
      exact k _ s1
def spChkR : Sp := fun vs H Q _ => ∃ (dd : Addr) (rk : Str → Nat) (rows : Rows), vs = [.ref dd] ∧ H dd = some (.dK (kvR rows)) ∧ ROk rk rows ∧ ∀ H', Same H H' → Q .non H'
theorem ok_chkr (T : Txt K mg A) : FnOk P w K mg base CX0 3 A.a_check_rows A.d_check_rows P_check_rows spChkR := by
  have G_is_name : FnOk P w K mg base CX0 1 A.a_is_name A.d_is_name P_is_name spIsName := ok_isname T
  have G_is_hook : FnOk P w K mg base CX0 2 A.a_is_hook A.d_is_hook P_is_hook spHook := ok_hook T
  refine T.f_check_rows.ok sc_check_rows (fun vs H Q E h => ?_) (fun cdv A' outer s H vs Q E hr h => ?_)
  · obtain ⟨dd, rk, rows, rfl, _⟩ := h
    rfl
  · obtain ⟨dd, rk, rows, rfl, hd, hO, k⟩ := h
    refine ⟨_, (pss_one (ps_lock (ps_for PassesOwn.never rfl (pi_keys (pv 0)) (pg_name (i := 1) sc_check_rows.nd rfl (Or.inl rfl))
 (pss_one (ps_if (PW.pt (pw_or (pt_not (pt_val (pe_call G_is_name (hr.mono (by omega)) (by rfl) T.g_is_name T.f_is_name.kp T.b_is_name .nil pass0 (pa_cons (pv 1) pa_nil)))) (pw_or1 (pt_not (pt_val (pe_call G_is_hook (hr.mono (by omega)) (by rfl) T.g_is_hook T.f_is_hook.kp T.b_is_hook .nil pass0 (pa_cons (pe_dget (hu_of hr) (pv 0) (pv 1) (fun _ _ => rfl)) (pa_cons (pv 0) pa_nil))))))))
 (pss_one ps_never)
 pss_nil))))), ?_⟩
    refine ⟨dd, _, hd, trivial, fun od => ?_⟩
    refine ⟨_, rfl, dd, od, rfl, .inl ⟨kvR rows, upd_same, for_it walk_keys (fun i σ' H' => ∃ x, σ' = [some (.ref dd), x] ∧ Same (upd H dd (.frz od (.dK (kvR rows)))) H') ⟨none, rfl, Same.refl _⟩ (fun i σ' H' _ ⟨_, _, s⟩ => s _ _ upd_same) ?_ ?_⟩⟩
    · rintro i x σ' H' H'' hi ⟨y, rfl, s1⟩ ⟨rfl, key, v, hk, rfl⟩
      obtain ⟨a, b, rfl, rfl, hr2⟩ := kvR_at hk
      have hm := List.mem_of_getElem? hr2
      refine ⟨_, rfl, a, rfl, (hO.nm a (memK hm)).1, fun H2 s2 => ⟨_, rfl, iteF ?_⟩⟩
      have hd2 : H2 dd = some (.frz od (.dK (kvR rows))) := s2 _ _ (s1 _ _ upd_same)
      refine ⟨_, rfl, _, rfl, dd, .str b, rfl, .inl ⟨kvR rows, .inr a, .inr ⟨od, hd2⟩, rfl, (valR hO.nd hm).symm⟩, _, rfl, b, dd, od, _, ksR rows, rfl, hd2, kvR_keys rows, by rw [ksR_len]; exact hO.len, (hO.acy a b hm).imp_right And.left, fun H3 s3 => ⟨_, rfl, iteF ?_⟩⟩
      exact ⟨_, rfl, (s1.trans s2).trans s3⟩
    · rintro σ' H' ⟨x, rfl, s1⟩
      refine ⟨s1 _ _ upd_same, k _ fun b u e => ?_⟩
      by_cases hb : b = dd
      · subst hb
        rw [hd] at e
        cases e
        exact upd_same
      · rw [upd_ne hb]
        exact s1 _ _ (by rw [upd_ne hb]; exact e)
end
end K5
set_option Elab.async false
set_option linter.all false
set_option maxRecDepth 100000
set_option maxHeartbeats 4000000
namespace K5
open PySem L2
local macro_rules | `(tactic| walk_at "rd1") => `(tactic| first
  | refine ⟨_, _, rfl, rfl, ?_⟩
  | refine ⟨_, _, _, _, rfl, rfl, SqL.of (by assumption), rfl, ?_⟩
  | refine ⟨_, _, _, _, rfl, rfl, (by assumption), rfl, ?_⟩
  | refine .inl ⟨_, rfl, ?_⟩
  | refine ⟨_, rfl, ?_⟩
  | refine ⟨(by unfold CMul; omega), ?_⟩
  | refine ⟨(by unfold CPow; omega), ?_⟩
  | refine ⟨(by (try dsimp only); omega), ?_⟩
  | refine ⟨(by unfold CDiv; omega), ?_⟩
  | fail "rd1")
local macro_rules | `(tactic| walk_at "rd") => `(tactic| repeat' (walk_at "rd1"))
section
variable {P : Program} {w : World} {K : PySem.W.Frag} {mg : Str → Option Value} {base : Heap} {A : Ad}

/-- what a climb may stand at, below the dish nm -/
def At (rk : Str → Nat) (rows : Rows) (nm h : Str) : Prop := h = "clock" ∨ (h ∈ ksR rows ∧ rk h < rk nm)
def msr (rk : Str → Nat) (h : Str) : Nat := if h = "clock" then 0 else rk h + 1
def spFrom : Sp := fun vs H Q _ => ∃ (nm : Str) (d : Addr) (rk : Str → Nat) (rows : Rows), vs = [.str nm, .ref d] ∧ H d = some (.dK (kvR rows)) ∧ ROk rk rows ∧ nm ∈ ksR rows ∧
  ∀ (p : Addr) (H' : Hp), Same H H' → H p = none → H' p = some (.lst []) → Q (.ref p) H'
theorem ok_from (T : Txt K mg A) : FnOk P w K mg base CX0 1 A.a_round_from A.d_round_from P_round_from spFrom := by
  refine T.f_round_from.ok sc_round_from (fun vs H Q E h => ?_) (fun cdv A' outer s H vs Q E hr h => ?_)
  · obtain ⟨nm, d, rk, rows, rfl, _⟩ := h
    rfl
  · obtain ⟨nm, d, rk, rows, rfl, hd, hO, hn, k⟩ := h
    refine ⟨_, (pss_cons (ps_set (i := 2) sc_round_from.nd rfl (Or.inl rfl) (pe_lst (pa_cons (pv 0) pa_nil)))
 (pss_cons (ps_set (i := 3) sc_round_from.nd rfl (Or.inl rfl) (pe_dget (hu_of hr) (pv 1) (pv 0) (fun _ _ => rfl)))
 (pss_cons (ps_while PassesOwn.never (PW.pt (pw_and (pt_cmpR op_ne (pv 3) (pe_glob (v := .str "clock") (by rfl) T.g_CLOCK.choose_spec ⟨_, rfl⟩) (nomark _)) (pw_and (pt_cmpR op_ne (pv 3) (pv 0) (nomark _)) (pw_and1 (pt_cmpR op_lt (pe_callB call_len_seq (by rfl) T.len PySem.boot_len (pa_cons (pv 2) pa_nil)) (pe_callB call_lenD (by rfl) T.len PySem.boot_len (pa_cons (pv 1) pa_nil)) (nomark _))))))
 (pss_cons (ps_expr (pe_bm PySem.F.plainAttrs_list PySem.F.slot_list_append PySem.F.type_list_append mt_append (pv 2) (pa_cons (pv 3) pa_nil)))
 (pss_one (ps_set (i := 3) sc_round_from.nd rfl (Or.inl rfl) (pe_dget (hu_of hr) (pv 1) (pv 3) (fun _ _ => rfl))))))
 (pss_one (ps_ret (pe_ifExp (pt_cmpR op_eq (pv 3) (pv 0) (nomark _)) (pv 2) (pe_lst pa_nil))))))), ?_⟩
    obtain ⟨h0, hm0⟩ := memR hn
    refine ⟨_, rfl, by show 1 ≤ sizeLine; decide, fun p hp => ?_⟩
    have s0 : Same H (upd H p (.lst [.str nm])) := Same.new hp
    refine ⟨_, rfl, _, rfl, d, _, rfl, .inl ⟨kvR rows, .inr nm, .inl (s0 _ _ hd), rfl, (valR hO.nd hm0).symm⟩, ?_⟩
    have npd : d ≠ p := ne_of_none hd hp
    refine while_ex (fun mm σ' H' => ∃ (xs : List V) (h : Str), σ' = [some (.str nm), some (.ref d), some (.ref p), some (.str h)] ∧ Same H H' ∧ H' p = some (.lst xs) ∧ At rk rows nm h ∧ mm = msr rk h)
      (fun σ' H' => ∃ (h : Str), σ' = [some (.str nm), some (.ref d), some (.ref p), some (.str h)] ∧ Same H H' ∧ At rk rows nm h)
      ⟨_, h0, rfl, s0, upd_same, hO.acy _ _ hm0, rfl⟩ (fun nx hnx => ?_) ?_
    · rintro mm σ' H' ⟨xs, h, rfl, s1, hp1, hat, rfl⟩
      refine ⟨_, rfl, rfl, _, rfl, ite2 (fun c1 => ?_) (fun _ => hnx _ _ ⟨h, rfl, s1, hat⟩)⟩
      have hne : h ≠ "clock" := fun e => by rw [e] at c1; cases c1
      obtain ⟨hin, hlt⟩ := hat.resolve_left hne
      refine ⟨_, rfl, _, rfl, rfl, _, rfl, ite2 (fun c2 => ?_) (fun _ => hnx _ _ ⟨h, rfl, s1, hat⟩)⟩
      refine ⟨_, rfl, _, _, rfl, .inl (SqL.of hp1), _, rfl, d, _, rfl, s1 _ _ hd, _, _, rfl, rfl, _, rfl, ite2 (fun c3 => ?_) (fun _ => hnx _ _ ⟨h, rfl, s1, hat⟩)⟩
      have hl : xs.length < 64 := by
        have q := of_decide_eq_true c3
        have := hO.len
        rw [kvR_len] at q
        omega
      obtain ⟨h2, hm2⟩ := memR hin
      refine ⟨_, fun _ _ z => z, ?_⟩
      refine ⟨_, rfl, .inl ⟨rfl, _, SqL.of hp1⟩, _, rfl, _, _, _, rfl, rfl, hp1, Nat.lt_of_lt_of_le hl (by decide), ?_⟩
      have s2 : Same H (upd H' p (.lst (xs ++ [.str h]))) := fun b u e => by rw [upd_ne (ne_of_none e hp)]; exact s1 _ _ e
      refine ⟨_, rfl, _, rfl, d, _, rfl, .inl ⟨kvR rows, .inr h, .inl (s2 _ _ hd), rfl, (valR hO.nd hm2).symm⟩, ?_⟩
      refine ⟨msr rk h2, ?_, _, h2, rfl, s2, upd_same, ?_, rfl⟩
      · unfold msr
        rw [if_neg hne]
        rcases hO.acy _ _ hm2 with e | e
        · rw [if_pos e]; omega
        · split
          · omega
          · have := e.2; omega
      · exact (hO.acy _ _ hm2).imp_right fun e => ⟨e.1, Nat.lt_trans e.2 hlt⟩
    · rintro σ' H' ⟨h, rfl, s1, hat⟩
      have hne : h ≠ nm := fun e => by
        rcases hat with q | q
        · exact (hO.nm nm hn).1.noclock (e.symm.trans q)
        · rw [e] at q; exact Nat.lt_irrefl _ q.2
      refine ⟨_, rfl, _, rfl, rfl, _, rfl, ite2 (fun q => absurd (V.str.inj (of_decide_eq_true q)) hne) (fun _ => ⟨Nat.zero_le _, fun q hq => ?_⟩)⟩
      exact k q _ (s1.trans (Same.new hq)) (s1.free hq) upd_same
def spRounds : Sp := fun vs H Q _ => ∃ (dd : Addr) (rk : Str → Nat) (rows : Rows), vs = [.ref dd] ∧ H dd = some (.dK (kvR rows)) ∧ ROk rk rows ∧ ∀ H', Same H H' → Q .non H'
theorem ok_rounds (T : Txt K mg A) : FnOk P w K mg base CX0 2 A.a_check_rounds A.d_check_rounds P_check_rounds spRounds := by
  have G_round_from : FnOk P w K mg base CX0 1 A.a_round_from A.d_round_from P_round_from spFrom := ok_from T
  refine T.f_check_rounds.ok sc_check_rounds (fun vs H Q E h => ?_) (fun cdv A' outer s H vs Q E hr h => ?_)
  · obtain ⟨dd, rk, rows, rfl, _⟩ := h
    rfl
  · obtain ⟨dd, rk, rows, rfl, hd, hO, k⟩ := h
    refine ⟨_, (pss_one (ps_for PassesOwn.never rfl (pi_list (pe_callB (call_sortedD rfl) (by rfl) T.sorted (by decide +kernel) (pa_cons (pv 0) pa_nil))) (pg_name (i := 1) sc_check_rounds.nd rfl (Or.inl rfl))
 (pss_cons (ps_set (i := 2) sc_check_rounds.nd rfl (Or.inl rfl) (pe_call G_round_from (hr.mono (by omega)) (by rfl) T.g_round_from T.f_round_from.kp T.b_round_from .nil pass0 (pa_cons (pv 1) (pa_cons (pv 0) pa_nil))))
 (pss_one (ps_if (pt_truth (pv 2) (by intro _; rfl))
 (pss_one ps_never)
 pss_nil))))), ?_⟩
    refine ⟨_, rfl, dd, _, ksR rows, rfl, .inl hd, kvR_keys rows, by rw [ksR_len]; exact hO.len, fun ys q hperm _ hq => ?_⟩
    refine ⟨q, rfl, ⟨_, SqL.of upd_same⟩, for_it walk_list (fun i σ' H' => ∃ x y, σ' = [some (.ref dd), x, y] ∧ Same (upd H q (.lst (ys.map V.str))) H') ⟨_, _, rfl, Same.refl _⟩ (fun i σ' H' _ z => SqL.of (z.choose_spec.choose_spec.2 _ _ upd_same)) ?_ ?_⟩
    · rintro i v σ' H' H'' hi ⟨x, y, rfl, s1⟩ ⟨rfl, hx⟩
      obtain ⟨hi, rfl⟩ := str_at hx
      have S1 : Same H H'' := (Same.new hq).trans s1
      refine ⟨_, rfl, _, rfl, ys[i], dd, rk, rows, rfl, S1 _ _ hd, hO, hperm.mem_iff.mp (List.getElem_mem hi), fun p H3 s3 hp hp3 => ?_⟩
      refine ⟨_, rfl, false, ?_, iteF ?_⟩
      · exact .inl ⟨_, SqL.of hp3, rfl⟩
      · exact ⟨_, _, rfl, s1.trans s3⟩
    · rintro σ' H' ⟨x, y, rfl, s1⟩
      exact k _ ((Same.new hq).trans s1)
end
end K5
set_option Elab.async false
set_option linter.all false
set_option maxRecDepth 100000
set_option maxHeartbeats 4000000
namespace K5
open PySem L2
local macro_rules | `(tactic| walk_at "rd1") => `(tactic| first
  | refine ⟨_, _, rfl, rfl, ?_⟩
  | refine ⟨_, _, _, _, rfl, rfl, SqL.of (by assumption), rfl, ?_⟩
  | refine ⟨_, _, _, _, rfl, rfl, (by assumption), rfl, ?_⟩
  | refine .inl ⟨_, rfl, ?_⟩
  | refine ⟨_, rfl, ?_⟩
  | refine ⟨(by unfold CMul; omega), ?_⟩
  | refine ⟨(by unfold CPow; omega), ?_⟩
  | refine ⟨(by (try dsimp only); omega), ?_⟩
  | refine ⟨(by unfold CDiv; omega), ?_⟩
  | fail "rd1")
local macro_rules | `(tactic| walk_at "rd") => `(tactic| repeat' (walk_at "rd1"))
section
variable {P : Program} {w : World} {K : PySem.W.Frag} {mg : Str → Option Value} {base : Heap} {A : Ad}

theorem fillD {J : It} {n : Nat} {G : Hp → Prop} {Y : Nat → Hp → V → Hp → Prop} (wk : Walk J n G Y) {g : TG} {tt : TT} {tk tv : TE} {vs : List Nat} {σ : St} {H1 : Hp} {D : Addr} {Qd : Hp → Prop} (I : Nat → Hp → Prop)
    (i0 : I 0 (upd H1 D (.dK []))) (iG : ∀ i H, i ≤ n → I i H → G H)
    (step : ∀ i x H H', i < n → I i H → Y i H x H' → g x (wipe σ vs) H' fun σ2 H2 => wipe σ2 vs = wipe σ vs ∧ tt σ2 H2 fun b H3 =>
      if b = true then tk σ2 H3 fun y H4 => tv σ2 H4 fun z H5 => ∃ kvs k, y = kV k ∧ H5 D = some (.dK kvs) ∧ kvs.length < sizeLine ∧ I (i + 1) (upd H5 D (.dK (putK kvs k z))) else I (i + 1) H3)
    (last : ∀ H, I n H → Qd H) :
    ∃ W : Nat → Nat → Hp → Prop, (∃ m, W 0 m (upd H1 D (.dK []))) ∧ ∀ i m H, W i m H →
      (J.stop i H ∧ Qd H) ∨ (J.go i H ∧ ∃ Nx : Hp → Prop, (∀ H', Nx H' → ∃ m', m' < m ∧ W (i + 1) m' H') ∧ ∀ x H', J.yld i H x H' → g x (wipe σ vs) H' fun σ2 H2 => wipe σ2 vs = wipe σ vs ∧ tt σ2 H2 fun b H3 =>
        if b = true then tk σ2 H3 fun y H4 => tv σ2 H4 fun z H5 => ∃ kvs k, y = kV k ∧ H5 D = some (.dK kvs) ∧ kvs.length < sizeLine ∧ Nx (upd H5 D (.dK (putK kvs k z))) else Nx H3) := by
  refine ⟨fun i m H => m + i = n ∧ I i H, ⟨n, rfl, i0⟩, fun i m H ⟨e, h⟩ => ?_⟩
  have g' := iG i H (by omega) h
  rcases Nat.lt_or_ge i n with lt | ge
  · exact .inr ⟨wk.goes i H lt g', I (i + 1), fun H' h' => ⟨m - 1, by omega, by omega, h'⟩, fun x H' y => step i x H H' lt h (wk.yields i H x H' lt g' y)⟩
  · obtain rfl : i = n := by omega
    exact .inl ⟨wk.stops H g', last H h⟩
/-- the same rows, ascending -/
structure Asc (rows rs : Rows) : Prop where
  keys : (ksR rs).Perm (ksR rows)
  mem : ∀ k h, (k, h) ∈ rs → (k, h) ∈ rows
  asc : PyProof.Rows.sortedS (ksR rs) = true
theorem Asc.ok {rk : Str → Nat} {rows rs : Rows} (a : Asc rows rs) (h : ROk rk rows) : ROk rk rs := by
  have l := a.keys.length_eq
  rw [ksR_len, ksR_len] at l
  exact ⟨a.keys.nodup_iff.mpr h.nd, fun s m => h.nm s (a.keys.mem_iff.mp m), by rw [l]; exact h.len, fun k b m => (h.acy k b (a.mem k b m)).imp_right fun e => ⟨a.keys.mem_iff.mpr e.1, e.2⟩, fun s m => h.rkb s (a.keys.mem_iff.mp m)⟩
/-- an instance of Hanging at p -/
structure HgAt (C : Addr) (H : Hp) (p q : Addr) (rs : Rows) : Prop where
  ex : ∃ dx, H p = some (.ins C dx [("hooks", .ref q)])
  at_ : H q = some (.dK (kvR rs))
theorem HgAt.up {C : Addr} {H H' : Hp} {p q : Addr} {rs : Rows} (h : HgAt C H p q rs) (s : Same H H') : HgAt C H' p q rs := ⟨h.ex.imp fun _ e => s _ _ e, s _ _ h.at_⟩
def spHInit (C : Addr) : Sp := fun vs H Q _ => ∃ (p dx dd : Addr) (rk : Str → Nat) (rows : Rows), vs = [.ref p, .ref dd] ∧ H p = some (.ins C dx []) ∧ H dd = some (.dK (kvR rows)) ∧ ROk rk rows ∧
  ∀ (H' : Hp) (q : Addr) (rs : Rows), HgAt C H' p q rs → H q = none → Asc rows rs → Same (er H p) (er H' p) → Q .non H'
theorem ok_hinit (T : Txt K mg A) : FnOk P w K mg base CX0 4 A.a_Hanging___init__ A.d_Hanging___init__ P_Hanging___init__ (spHInit A.a_Hanging) := by
  have G_check_rows : FnOk P w K mg base CX0 3 A.a_check_rows A.d_check_rows P_check_rows spChkR := ok_chkr T
  have G_check_rounds : FnOk P w K mg base CX0 2 A.a_check_rounds A.d_check_rounds P_check_rounds spRounds := ok_rounds T
  refine T.f_Hanging___init__.ok sc_Hanging___init__ (fun vs H Q E h => ?_) (fun cdv A' outer s H vs Q E hr h => ?_)
  · obtain ⟨p, dx, dd, rk, rows, rfl, _⟩ := h
    rfl
  · obtain ⟨p, dx, dd, rk, rows, rfl, hp, hd, hO, k⟩ := h
    refine ⟨_, PSs.nox (pss_cons (ps_expr (pe_call G_check_rows (hr.mono (by omega)) (by rfl) T.g_check_rows T.f_check_rows.kp T.b_check_rows .nil pass0 (pa_cons (pv 1) pa_nil)))
 (pss_cons (ps_expr (pe_call G_check_rounds (hr.mono (by omega)) (by rfl) T.g_check_rounds T.f_check_rounds.kp T.b_check_rounds .nil pass0 (pa_cons (pv 1) pa_nil)))
 (pss_one (ps_fld (pv 0) (pe_dc (own := [("name", 2)]) (g := gName 2) (by rfl) sc_Hanging___init__.nd (pi_list (pe_callB (call_sortedD rfl) (by rfl) T.sorted (by decide +kernel) (pa_cons (pv 1) pa_nil))) (blkOk_by (N := N_Hanging___init__) (sc := defScope s_Hanging___init__) (by decide +kernel)) (fun _ _ _ _ _ => pg_name (i := 2) sc_Hanging___init__.nd rfl (Or.inl rfl)) (fun _ _ _ _ _ => pts_nil) (fun _ _ _ _ _ => (pv 2)) (fun _ _ _ _ _ => (pe_dget (hu_of hr) (pv 1) (pv 2) (fun _ _ => rfl)))) rfl)))), ?_⟩
    have npd : dd ≠ p := ne_of hd hp (fun z => nomatch z)
    refine ⟨_, rfl, dd, rk, rows, rfl, hd, hO, fun H1 s1 => ?_⟩
    refine ⟨_, rfl, dd, rk, rows, rfl, s1 _ _ hd, hO, fun H2 s2 => ?_⟩
    have S2 := s1.trans s2
    have hd2 := S2 _ _ hd
    refine ⟨_, rfl, dd, _, ksR rows, rfl, .inl hd2, kvR_keys rows, by rw [ksR_len]; exact hO.len, fun ys q hperm hsort hq => ?_⟩
    have yN : ys.Nodup := hperm.nodup_iff.mpr hO.nd
    have yl : ys.length < 64 := by rw [hperm.length_eq, ksR_len]; exact hO.len
    refine ⟨q, rfl, ⟨_, SqL.of upd_same⟩, fun D hD => fillD walk_list (fun i H' => Same (upd H2 q (.lst (ys.map V.str))) H' ∧ ∃ rs : Rows, H' D = some (.dK (kvR rs)) ∧ ksR rs = ys.take i ∧ ∀ k h, (k, h) ∈ rs → (k, h) ∈ rows) ⟨Same.new hD, [], upd_same, rfl, fun _ _ m => by cases m⟩ (fun i H' _ h => SqL.of (h.1 _ _ upd_same)) ?_ (fun H4 h4 => ?_)⟩
    · rintro i x H' H'' hi ⟨s4, rs, hrs, hks, hsub⟩ ⟨rfl, hx⟩
      obtain ⟨hi, rfl⟩ := str_at hx
      have hm : ys[i] ∈ ksR rows := hperm.mem_iff.mp (List.getElem_mem hi)
      obtain ⟨h, hh⟩ := memR hm
      have S4 : Same H H'' := S2.trans ((Same.new hq).trans s4)
      have kl : rs.length = i := by
        have := congrArg List.length hks
        rw [ksR_len, List.length_take] at this
        omega
      have hk : (Sum.inr ys[i] : Key) ∉ (kvR rs).map (·.1) := by
        rw [kvR_keys, hks]
        intro m
        obtain ⟨z, hz, ez⟩ := List.mem_map.mp m
        exact not_in_take yN hi (by rw [← Sum.inr.inj ez]; exact hz)
      refine ⟨rfl, _, rfl, _, rfl, _, rfl, dd, .str h, rfl, .inl ⟨kvR rows, .inr ys[i], .inl (S4 _ _ hd), rfl, (valR hO.nd hh).symm⟩, kvR rs, .inr ys[i], rfl, hrs, ?_, ?_, ?_⟩
      · rw [kvR_len, kl]; exact Nat.lt_of_lt_of_le (show i < 65 by omega) (by decide)
      · exact fun c u e => by rw [upd_ne (ne_of_none e hD)]; exact s4 _ _ e
      · rw [put_new _ _ _ hk, ← kvR_app]
        refine ⟨_, upd_same, ?_, fun a b m => ?_⟩
        · rw [ksR_app, hks, List.take_succ, List.getElem?_eq_getElem hi]; rfl
        · rcases List.mem_append.mp m with m | m
          · exact hsub a b m
          · cases List.mem_singleton.mp m; exact hh
    · obtain ⟨s4, rs, hrs, hks, hsub⟩ := h4
      rw [List.length_map, List.take_length] at hks
      have S4 : Same H H4 := S2.trans ((Same.new hq).trans s4)
      have hp4 := S4 _ _ hp
      have nDp : D ≠ p := fun e => by rw [e, hp4] at hrs; cases hrs
      refine ⟨_, rfl, p, A.a_Hanging, dx, _, rfl, hp4, T.cl, T.nH, by decide, ?_⟩
      refine k _ D rs ⟨⟨dx, upd_same⟩, by rw [upd_ne nDp]; exact hrs⟩ (((S2.trans (Same.new hq))).free hD) ⟨by rw [hks]; exact hperm, hsub, by rw [hks]; exact hsort⟩ ?_
      rw [er_upd]; exact er_mono S4
def spHRows (C : Addr) : Sp := fun vs H Q _ => ∃ (p q : Addr) (rs : Rows), vs = [.ref p] ∧ HgAt C H p q rs ∧ ∀ l, H l = none → Q (.ref l) (upd H l (.dK (kvR rs)))
theorem ok_hrows (T : Txt K mg A) : FnOk P w K mg base CX0 1 A.a_Hanging_rows A.d_Hanging_rows P_Hanging_rows (spHRows A.a_Hanging) := by
  refine T.f_Hanging_rows.ok sc_Hanging_rows (fun vs H Q E h => ?_) (fun cdv A' outer s H vs Q E hr h => ?_)
  · obtain ⟨p, q, rs, rfl, _⟩ := h
    rfl
  · obtain ⟨p, q, rs, rfl, ⟨⟨dx, hp⟩, hq⟩, k⟩ := h
    refine ⟨_, (pss_one (ps_ret (pe_callTy call_dictD (by rfl) T.dict (by decide +kernel) (pa_cons (pe_fld (pv 0) rfl) pa_nil)))), ?_⟩
    exact ⟨_, rfl, p, A.a_Hanging, dx, _, _, rfl, hp, T.cl, T.nH, rfl, q, _, rfl, .inl hq, k⟩
end
end K5
set_option Elab.async false
set_option linter.all false
set_option maxRecDepth 100000
set_option maxHeartbeats 4000000
namespace K5
open PySem L2
local macro_rules | `(tactic| walk_at "rd1") => `(tactic| first
  | refine ⟨_, _, rfl, rfl, ?_⟩
  | refine ⟨_, _, _, _, rfl, rfl, SqL.of (by assumption), rfl, ?_⟩
  | refine ⟨_, _, _, _, rfl, rfl, (by assumption), rfl, ?_⟩
  | refine .inl ⟨_, rfl, ?_⟩
  | refine ⟨_, rfl, ?_⟩
  | refine ⟨(by unfold CMul; omega), ?_⟩
  | refine ⟨(by unfold CPow; omega), ?_⟩
  | refine ⟨(by (try dsimp only); omega), ?_⟩
  | refine ⟨(by unfold CDiv; omega), ?_⟩
  | fail "rd1")
local macro_rules | `(tactic| walk_at "rd") => `(tactic| repeat' (walk_at "rd1"))
section
variable {P : Program} {w : World} {K : PySem.W.Frag} {mg : Str → Option Value} {base : Heap} {A : Ad}

/-! ### copies -/
def SqX (K : PySem.W.Frag) (H : Hp) (a : Addr) (xs : List V) : Prop := SqL K H a xs ∨ SqT K H a xs
theorem seq_or {H0 H : Hp} {t : Addr} {xs : List V} {j : Nat} {σ : St} {R : It → Hp → Prop} (h : SqX K H0 t xs) (s0 : Same H0 H) (hj : σ[j]? = some (some (.ref t))) (hR : ∀ J G, Walk J xs.length G (YAt xs) → (∀ H', Same H0 H' → G H') → R J H) :
    iList K (tVar j) σ H R ∨ iTup K (tVar j) σ H R :=
  h.elim (fun q => .inl ⟨_, hj, t, rfl, ⟨_, sqUp q s0⟩, hR _ _ walk_list fun H' s => sqUp q s⟩) (fun q => .inr ⟨_, hj, t, rfl, ⟨_, stUp q s0⟩, hR _ _ walk_tup fun H' s => stUp q s⟩)
/-- G' is G and what is new since H -/
structure More (H G G' : Hp) : Prop where
  same : Same G G'
  new : ∀ b, G' b ≠ none → G b ≠ none ∨ H b = none
theorem More.refl (H G : Hp) : More H G G := ⟨Same.refl _, fun _ h => .inl h⟩
theorem More.step {H H1 G G1 G2 : Hp} (a : More H G G1) (s : Same H H1) (b : More H1 G1 G2) : More H G G2 := ⟨a.same.trans b.same, fun x h => (b.new x h).elim (a.new x) fun e => .inr (s.free e)⟩
theorem More.put {H G G1 : Hp} {D : Addr} {o : HO} (a : More H G G1) (hD : H D = none) (h1 : G1 D = none) : More H G (upd G1 D o) := ⟨a.same.trans (Same.new h1), fun b h => by
  by_cases e : b = D
  · exact .inr (by rw [e]; exact hD)
  · rw [upd_ne e] at h; exact a.new b h⟩
theorem dpApp {H : Hp} : ∀ {vs : List V} {ds : List PyData} {v : V} {d : PyData}, DpAll K H vs ds → Dp K H v d → DpAll K H (vs ++ [v]) (ds ++ [d])
  | _, _, _, _, .nil, h => .cons h .nil
  | _, _, _, _, .cons a b, h => .cons a (dpApp b h)
def spCopy (K : PySem.W.Frag) (n : Nat) : Sp := fun vs H Q _ => ∃ x, vs = [x] ∧
  ((∃ (d : PyData) (G : Hp), Same G H ∧ Dp K G x d ∧ d.depth < n ∧ wid d = true ∧ ∀ y G' H', Same H H' → More H G G' → Same G' H' → Dp K G' y d → Q y H') ∨
    (∃ a, x = .ref a ∧ H a = some (.dK []) ∧ 0 < n ∧ ∀ b H', Same H H' → H b = none → H' b = some (.dK []) → Q (.ref b) H'))
theorem copy_loop {J : It} {n : Nat} {Gd : Hp → Prop} {xs : List V} {ds : List PyData} {H G : Hp} {D : Addr} {x0 : V} {Qd : Hp → Prop} (wk : Walk J xs.length Gd (YAt xs)) (hx : DpAll K G xs ds) (hGH : Same G H)
    (hd : PyData.depthAll ds < n) (hw : widAll ds = true) (hN : ds.length ≤ 1000) (hG : ∀ H', Same H H' → Gd H') (hD : H D = none) (hq : ∀ H' acc G', Same H H' → H' D = some (.lst acc) → More H G G' → Same G' H' → G' D = none → DpAll K G' acc ds → Qd H') :
    ∃ W : Nat → Nat → Hp → Prop, (∃ m, W 0 m (upd H D (.lst []))) ∧ ∀ i m H, W i m H →
      (J.stop i H ∧ Qd H) ∨ (J.go i H ∧ ∃ Nx : Hp → Prop, (∀ H', Nx H' → ∃ m', m' < m ∧ W (i + 1) m' H') ∧ ∀ x H', J.yld i H x H' →
        gName 1 x (wipe [some x0, none, none] [1]) H' fun σ2 H2 => wipe σ2 [1] = wipe [some x0, none, none] [1] ∧ tYes σ2 H2 fun b H3 =>
        if b = true then (tCall (spCopy K n) [] E0 (tCons (tVar 1) tNil)) σ2 H3 fun y H4 => ∃ acc, H4 D = some (.lst acc) ∧ acc.length < sizeLine ∧ Nx (upd H4 D (.lst (acc ++ [y]))) else Nx H3) := by
  have gD : G D = none := hGH.free hD
  refine lc_it wk (fun i H' => Same H H' ∧ ∃ acc G', H' D = some (.lst acc) ∧ More H G G' ∧ Same G' H' ∧ G' D = none ∧ DpAll K G' acc (ds.take i)) ⟨Same.new hD, [], G, upd_same, More.refl _ _, hGH.trans (Same.new hD), gD, .nil⟩ (fun i H' _ p => hG H' p.1) ?_ (fun H' p => ?_)
  · rintro i v H' H'' hi ⟨s1, acc, G', hD', mo, sG, gD', hA⟩ ⟨rfl, hv⟩
    obtain ⟨d, hd1, dx⟩ := dpGet hx hv
    have hdep : d.depth < n := Nat.lt_of_le_of_lt (PyData.depth_le_depthAll ds d (List.mem_of_getElem? hd1)) hd
    have hil : i < ds.length := (List.getElem?_eq_some_iff.mp hd1).1
    have hal := dpLen hA
    refine ⟨rfl, _, rfl, v, rfl, .inl ⟨d, G', sG, dpSame mo.same dx, hdep, widAll_mem hw (List.mem_of_getElem? hd1), fun y G2 H3 s3 mo2 sG2 hy => ?_⟩⟩
    have hD3 := s3 _ _ hD'
    refine ⟨acc, hD3, Nat.lt_of_le_of_lt (show acc.length ≤ 1000 by rw [hal, List.length_take]; omega) (by decide), ?_, acc ++ [y], G2, upd_same, mo.step s1 mo2, ?_, ?_, ?_⟩
    · exact fun b u e => by rw [upd_ne (ne_of_none e hD)]; exact s3 _ _ (s1 _ _ e)
    · have g2 : G2 D = none := by
        cases e : G2 D with
        | none => rfl
        | some o => exact ((mo2.new D (by rw [e]; exact fun z => nomatch z)).elim (fun z => z gD') fun z => by rw [hD'] at z; cases z).elim
      exact fun b u e => by rw [upd_ne (ne_of_none e g2)]; exact sG2 _ _ e
    · cases e : G2 D with
      | none => rfl
      | some o => exact ((mo2.new D (by rw [e]; exact fun z => nomatch z)).elim (fun z => z gD') fun z => by rw [hD'] at z; cases z).elim
    · rw [List.take_succ, hd1]
      exact dpApp (dpAllSame mo2.same hA) hy
  · obtain ⟨s1, acc, G', hD', mo, sG, gD', hA⟩ := p
    rw [dpLen hx, List.take_length] at hA
    exact hq H' acc G' s1 hD' mo sG gD' hA
end
end K5
set_option Elab.async false
set_option linter.all false
set_option maxRecDepth 100000
set_option maxHeartbeats 4000000
namespace K5
open PySem L2
local macro_rules | `(tactic| walk_at "rd1") => `(tactic| first
  | refine ⟨_, _, rfl, rfl, ?_⟩
  | refine ⟨_, _, _, _, rfl, rfl, SqL.of (by assumption), rfl, ?_⟩
  | refine ⟨_, _, _, _, rfl, rfl, (by assumption), rfl, ?_⟩
  | refine .inl ⟨_, rfl, ?_⟩
  | refine ⟨_, rfl, ?_⟩
  | refine ⟨(by unfold CMul; omega), ?_⟩
  | refine ⟨(by unfold CPow; omega), ?_⟩
  | refine ⟨(by (try dsimp only); omega), ?_⟩
  | refine ⟨(by unfold CDiv; omega), ?_⟩
  | fail "rd1")
local macro_rules | `(tactic| walk_at "rd") => `(tactic| repeat' (walk_at "rd1"))
section
variable {P : Program} {w : World} {K : PySem.W.Frag} {mg : Str → Option Value} {base : Heap} {A : Ad}

theorem ok_copied (T : Txt K mg A) : ∀ n : Nat, FnOk P w K mg base CX0 n A.a_copied A.d_copied P_copied (spCopy K n)
  | 0 => no_fn fun vs H Q E ⟨_, _, h⟩ => h.elim (fun ⟨_, _, _, _, h, _⟩ => absurd h (Nat.not_lt_zero _)) fun ⟨_, _, _, h, _⟩ => absurd h (Nat.not_lt_zero _)
  | n + 1 => by
    have G_copied : FnOk P w K mg base CX0 n A.a_copied A.d_copied P_copied (spCopy K n) := ok_copied T n
    refine T.f_copied.ok sc_copied (fun vs H Q E h => ?_) (fun cdv A' outer s H vs Q E hr h => ?_)
    · obtain ⟨x, rfl, _⟩ := h
      rfl
    · obtain ⟨x, rfl, h⟩ := h
      refine ⟨_, (pss_cons (ps_if (pt_val (pe_callB call_isi (by rfl) T.isinstance (by decide +kernel) (pa_cons (pv 0) (pa_cons (pe_bltn (v := .ty "list") (u := .type "list") (by rfl) T.list (by decide +kernel) rfl) pa_nil))))
 (pss_one (ps_ret (pe_lc (own := [("part", 1)]) (g := gName 1) (by rfl) sc_copied.nd (EnT.pi_or (pi_list (pv 0)) (pi_tup (pv 0))) (blkOk_by (N := N_copied) (sc := defScope s_copied) (by decide +kernel)) (fun _ _ _ _ _ => pg_name (i := 1) sc_copied.nd rfl (Or.inl rfl)) (fun _ _ _ _ _ => pts_nil) (fun _ _ _ _ _ => (pe_call G_copied (hr.mono (by omega)) (by rfl) T.g_copied T.f_copied.kp T.b_copied .nil pass0 (pa_cons (pv 1) pa_nil))))))
 pss_nil)
 (pss_cons (ps_if (pt_val (pe_callB call_isi (by rfl) T.isinstance (by decide +kernel) (pa_cons (pv 0) (pa_cons (pe_bltn (v := .ty "tuple") (u := .type "tuple") (by rfl) T.tuple (by decide +kernel) rfl) pa_nil))))
 (pss_one (ps_ret (pe_callTy call_tuple_of (by rfl) T.tuple (by decide +kernel) (pa_cons (pe_lc (own := [("part", 1)]) (g := gName 1) (by rfl) sc_copied.nd (EnT.pi_or (pi_list (pv 0)) (pi_tup (pv 0))) (blkOk_by (N := N_copied) (sc := defScope s_copied) (by decide +kernel)) (fun _ _ _ _ _ => pg_name (i := 1) sc_copied.nd rfl (Or.inl rfl)) (fun _ _ _ _ _ => pts_nil) (fun _ _ _ _ _ => (pe_call G_copied (hr.mono (by omega)) (by rfl) T.g_copied T.f_copied.kp T.b_copied .nil pass0 (pa_cons (pv 1) pa_nil)))) pa_nil))))
 pss_nil)
 (pss_cons (ps_if (pt_val (pe_callB call_isi (by rfl) T.isinstance (by decide +kernel) (pa_cons (pv 0) (pa_cons (pe_bltn (v := .ty "dict") (u := .type "dict") (by rfl) T.dict (by decide +kernel) rfl) pa_nil))))
 (pss_one (ps_ret (pe_lock (pe_dc (own := [("key", 2)]) (g := gName 2) (by rfl) sc_copied.nd (pi_keys (pv 0)) (blkOk_by (N := N_copied) (sc := defScope s_copied) (by decide +kernel)) (fun _ _ _ _ _ => pg_name (i := 2) sc_copied.nd rfl (Or.inl rfl)) (fun _ _ _ _ _ => pts_nil) (fun _ _ _ _ _ => (pv 2)) (fun _ _ _ _ _ => (pe_call G_copied (hr.mono (by omega)) (by rfl) T.g_copied T.f_copied.kp T.b_copied .nil pass0 (pa_cons (pe_dget (hu_of hr) (pv 0) (pv 2) (fun _ _ => rfl)) pa_nil)))))))
 pss_nil)
 (pss_one (ps_ret (pv 0)))))), ?_⟩
      rcases h with ⟨d, G, sG, hx, hd, hw, k⟩ | ⟨a, rfl, ha, _, k⟩
      · cases hx with
        | non => exact ⟨_, rfl, _, _, .type "NoneType", _, false, rfl, .ty _, .base .non, kit_ty (by decide +kernel), _, rfl, iteF ⟨_, rfl, _, _, .type "NoneType", _, false, rfl, .ty _, .base .non, kit_ty (by decide +kernel), _, rfl, iteF ⟨_, rfl, _, _, .type "NoneType", _, false, rfl, .ty _, .base .non, kit_ty (by decide +kernel), _, rfl, iteF ⟨_, rfl, k _ G H (Same.refl _) (More.refl _ _) sG (.non)⟩⟩⟩⟩
        | bl b => exact ⟨_, rfl, _, _, .type "bool", _, false, rfl, .ty _, .base (.bl _), kit_ty (by decide +kernel), _, rfl, iteF ⟨_, rfl, _, _, .type "bool", _, false, rfl, .ty _, .base (.bl _), kit_ty (by decide +kernel), _, rfl, iteF ⟨_, rfl, _, _, .type "bool", _, false, rfl, .ty _, .base (.bl _), kit_ty (by decide +kernel), _, rfl, iteF ⟨_, rfl, k _ G H (Same.refl _) (More.refl _ _) sG (.bl _)⟩⟩⟩⟩
        | int i => exact ⟨_, rfl, _, _, .type "int", _, false, rfl, .ty _, .base (.int _), kit_ty (by decide +kernel), _, rfl, iteF ⟨_, rfl, _, _, .type "int", _, false, rfl, .ty _, .base (.int _), kit_ty (by decide +kernel), _, rfl, iteF ⟨_, rfl, _, _, .type "int", _, false, rfl, .ty _, .base (.int _), kit_ty (by decide +kernel), _, rfl, iteF ⟨_, rfl, k _ G H (Same.refl _) (More.refl _ _) sG (.int _)⟩⟩⟩⟩
        | str z => exact ⟨_, rfl, _, _, .type "str", _, false, rfl, .ty _, .base (.str _), kit_ty (by decide +kernel), _, rfl, iteF ⟨_, rfl, _, _, .type "str", _, false, rfl, .ty _, .base (.str _), kit_ty (by decide +kernel), _, rfl, iteF ⟨_, rfl, _, _, .type "str", _, false, rfl, .ty _, .base (.str _), kit_ty (by decide +kernel), _, rfl, iteF ⟨_, rfl, k _ G H (Same.refl _) (More.refl _ _) sG (.str _)⟩⟩⟩⟩
        | lst hL hA =>
          obtain ⟨w1, w2⟩ := wid_parts (.inl hw)
          have t1 := tyL (sqUp hL sG)
          refine ⟨_, rfl, _, _, .type "list", _, true, rfl, .ty _, t1, kit_ty (by decide +kernel), _, rfl, iteT ?_⟩
          refine seq_or (H0 := H) (.inl (sqUp hL sG)) (Same.refl _) rfl fun J Gd wk hG => fun D hD => copy_loop wk hA sG (by simp only [PyData.depth] at hd; omega) w2 w1 hG hD (fun H' acc G' s' hD' mo sG' gD hA' => ?_)
          refine k (.ref D) (upd G' D (.lst acc)) H' s' (mo.put hD gD) ?_ (.lst (SqL.of upd_same) (dpAllSame (Same.new gD) hA'))
          intro b u e
          by_cases hb : b = D
          · subst hb; rw [upd_same] at e; cases e; exact hD'
          · rw [upd_ne hb] at e; exact sG' _ _ e
        | tup hL hA =>
          obtain ⟨w1, w2⟩ := wid_parts (.inr hw)
          have t1 := tyT (stUp hL sG)
          refine ⟨_, rfl, _, _, .type "tuple", _, false, rfl, .ty _, t1, kit_ty (by decide +kernel), _, rfl, iteF ?_⟩
          refine ⟨_, rfl, _, _, .type "tuple", _, true, rfl, .ty _, t1, kit_ty (by decide +kernel), _, rfl, iteT ?_⟩
          refine seq_or (H0 := H) (.inr (stUp hL sG)) (Same.refl _) rfl fun J Gd wk hG => fun D hD => copy_loop wk hA sG (by simp only [PyData.depth] at hd; omega) w2 w1 hG hD (fun H' acc G' s' hD' mo sG' gD hA' => ?_)
          refine ⟨D, _, rfl, .inl ⟨SqL.of hD', fun t ht => ?_⟩⟩
          have gt : G' t = none := sG'.free ht
          refine k (.ref t) (upd G' t (.tup acc)) _ (s'.trans (Same.new ht)) (mo.put (s'.free ht) gt) ?_ (.tup (SqT.of upd_same) (dpAllSame (Same.new gt) hA'))
          intro b u e
          by_cases hb : b = t
          · subst hb; rw [upd_same] at e ⊢; exact e
          · rw [upd_ne hb] at e ⊢; exact sG' _ _ e
      · have t1 : TyX K H (.ref a) (.type "dict") := .base (.dK ha)
        refine ⟨_, rfl, _, _, .type "dict", _, false, rfl, .ty _, t1, kit_ty (by decide +kernel), _, rfl, iteF ?_⟩
        refine ⟨_, rfl, _, _, .type "dict", _, false, rfl, .ty _, t1, kit_ty (by decide +kernel), _, rfl, iteF ?_⟩
        refine ⟨_, rfl, _, _, .type "dict", _, true, rfl, .ty _, t1, kit_ty (by decide +kernel), _, rfl, iteT ?_⟩
        refine ⟨a, _, ha, trivial, fun od => ?_⟩
        refine ⟨_, rfl, a, od, rfl, .inl ⟨[], upd_same, fun D hD => fillD walk_keys (fun i H' => H' = upd (upd H a (.frz od (.dK []))) D (.dK [])) rfl (fun i H' _ e => ?_) ?_ (fun H' e => ?_)⟩⟩
        · have n : a ≠ D := ne_of_none upd_same hD
          rw [e, upd_ne n, upd_same]
        · intro i x H' H'' hi
          exact absurd hi (Nat.not_lt_zero _)
        · subst e
          have n : a ≠ D := ne_of_none upd_same hD
          have hD0 : H D = none := by rw [upd_ne n.symm] at hD; exact hD
          refine ⟨by rw [upd_ne n, upd_same], k D _ (fun b u e => ?_) hD0 (by rw [upd_ne n.symm, upd_same])⟩
          by_cases hb : b = a
          · subst hb; rw [upd_same]; rw [ha] at e; exact e
          · rw [upd_ne hb, upd_ne (ne_of_none e hD0), upd_ne hb]; exact e
end
end K5
set_option Elab.async false
set_option linter.all false
set_option maxRecDepth 100000
set_option maxHeartbeats 4000000
namespace K5
open PySem L2
local macro_rules | `(tactic| walk_at "rd1") => `(tactic| first
  | refine ⟨_, _, rfl, rfl, ?_⟩
  | refine ⟨_, _, _, _, rfl, rfl, SqL.of (by assumption), rfl, ?_⟩
  | refine ⟨_, _, _, _, rfl, rfl, (by assumption), rfl, ?_⟩
  | refine .inl ⟨_, rfl, ?_⟩
  | refine ⟨_, rfl, ?_⟩
  | refine ⟨(by unfold CMul; omega), ?_⟩
  | refine ⟨(by unfold CPow; omega), ?_⟩
  | refine ⟨(by (try dsimp only); omega), ?_⟩
  | refine ⟨(by unfold CDiv; omega), ?_⟩
  | fail "rd1")
local macro_rules | `(tactic| walk_at "rd") => `(tactic| repeat' (walk_at "rd1"))
section
variable {P : Program} {w : World} {K : PySem.W.Frag} {mg : Str → Option Value} {base : Heap} {A : Ad}

/-- data that can be copied: at a depth below n, in G; or an empty dict -/
def Cpre (K : PySem.W.Frag) (n : Nat) (G H : Hp) (x : V) : Prop := Same G H ∧ ((∃ d, Dp K G x d ∧ d.depth < n ∧ wid d = true) ∨ ∃ a, x = .ref a ∧ G a = some (.dK []) ∧ 0 < n)
/-- two of the same data -/
def SD (K : PySem.W.Frag) (n : Nat) (H : Hp) (x y : V) : Prop := (∃ d, Dp K H x d ∧ Dp K H y d ∧ d.depth < n ∧ wid d = true) ∨ ∃ a b, x = .ref a ∧ y = .ref b ∧ H a = some (.dK []) ∧ H b = some (.dK [])
def spNDI (K : PySem.W.Frag) (n : Nat) (C : Addr) : Sp := fun vs H Q _ => ∃ (a : Addr) (x : V) (G : Hp), vs = [.ref a, x] ∧ H a = some (exo a C none) ∧ G a = none ∧ Cpre K n G H x ∧
  ∀ y Hc dx, Same H Hc → Hc dx = none → dx ≠ a → (∀ H', (∀ b u, Hc b = some u → b ≠ a → (G b ≠ none ∨ H b = none) → H' b = some u) → SD K n H' x y) → Q .non (upd (upd Hc dx (exd dx [("name", y)])) a (exo a C (some dx)))
theorem exo_dK {e C : Addr} {d : Option Addr} {kvs : List (Key × V)} : exo e C d ≠ .dK kvs := fun z => by unfold exo at z; cases z
theorem ok_ndi (T : Txt K mg A) (n : Nat) : FnOk P w K mg base CX0 (n + 1) A.a_NoDish___init__ A.d_NoDish___init__ P_NoDish___init__ (spNDI K n A.a_NoDish) := by
  have G_copied : FnOk P w K mg base CX0 n A.a_copied A.d_copied P_copied (spCopy K n) := ok_copied T n
  refine T.f_NoDish___init__.ok sc_NoDish___init__ (fun vs H Q E h => ?_) (fun cdv A' outer s H vs Q E hr h => ?_)
  · obtain ⟨a, x, G, rfl, _⟩ := h
    rfl
  · obtain ⟨a, x, G, rfl, ha, ga, ⟨sG, hx⟩, k⟩ := h
    refine ⟨_, (pss_one (ps_ost (pv 0) (pe_call G_copied (hr.mono (by omega)) (by rfl) T.g_copied T.f_copied.kp T.b_copied .nil pass0 (pa_cons (pv 1) pa_nil)))), ?_⟩
    rcases hx with ⟨d, hx, hd, hw⟩ | ⟨a2, rfl, ha2, hn⟩
    · refine ⟨_, rfl, x, rfl, .inl ⟨d, G, sG, hx, hd, hw, fun y G' Hc s1 mo sG' hy => ⟨_, rfl, a, A.a_NoDish, rfl, T.xN, T.nN, .inl ⟨s1 _ _ ha, fun dx h1 h2 => k y Hc dx s1 h1 h2 fun H' hh => .inl ⟨d, ?_, ?_, hd, hw⟩⟩⟩⟩⟩
      · exact dpSame (fun b u e => hh b u (s1 _ _ (sG _ _ e)) (fun z => by rw [z, ga] at e; cases e) (.inl (by rw [e]; exact fun z => nomatch z))) hx
      · refine dpSame (fun b u e => hh b u (sG' _ _ e) (fun z => ?_) (mo.new b (by rw [e]; exact fun z => nomatch z))) hy
        subst z
        rcases mo.new b (by rw [e]; exact fun z => nomatch z) with z | z
        · exact z ga
        · rw [ha] at z; cases z
    · refine ⟨_, rfl, _, rfl, .inr ⟨a2, rfl, sG _ _ ha2, hn, fun b Hc s1 hb0 hb => ⟨_, rfl, a, A.a_NoDish, rfl, T.xN, T.nN, .inl ⟨s1 _ _ ha, fun dx h1 h2 => k _ Hc dx s1 h1 h2 fun H' hh => .inr ⟨a2, b, rfl, rfl, ?_, ?_⟩⟩⟩⟩⟩
      · exact hh _ _ (s1 _ _ (sG _ _ ha2)) (fun z => by rw [z, ga] at ha2; cases ha2) (.inl (by rw [ha2]; exact fun z => nomatch z))
      · exact hh _ _ hb (fun z => by rw [z, ha] at hb0; cases hb0) (.inr hb0)
end
end K5
set_option Elab.async false
set_option linter.all false
set_option maxRecDepth 100000
set_option maxHeartbeats 4000000
namespace K5
open PySem L2
local macro_rules | `(tactic| walk_at "rd1") => `(tactic| first
  | refine ⟨_, _, rfl, rfl, ?_⟩
  | refine ⟨_, _, _, _, rfl, rfl, SqL.of (by assumption), rfl, ?_⟩
  | refine ⟨_, _, _, _, rfl, rfl, (by assumption), rfl, ?_⟩
  | refine .inl ⟨_, rfl, ?_⟩
  | refine ⟨_, rfl, ?_⟩
  | refine ⟨(by unfold CMul; omega), ?_⟩
  | refine ⟨(by unfold CPow; omega), ?_⟩
  | refine ⟨(by (try dsimp only); omega), ?_⟩
  | refine ⟨(by unfold CDiv; omega), ?_⟩
  | fail "rd1")
local macro_rules | `(tactic| walk_at "rd") => `(tactic| repeat' (walk_at "rd1"))
section
variable {P : Program} {w : World} {K : PySem.W.Frag} {mg : Str → Option Value} {base : Heap} {A : Ad}

theorem valR_none {rows : Rows} {s : Str} (h : s ∉ ksR rows) : valV (kvR rows) (.inr s) = none := by
  induction rows with
  | nil => rfl
  | cons r rs ih =>
    have e : (Sum.inr r.1 : Key) ≠ .inr s := fun z => h (by rw [← Sum.inr.inj z]; exact List.mem_cons_self ..)
    show valV ((.inr r.1, .str r.2) :: kvR rs) (.inr s) = none
    rw [valV_neg e]
    exact ih fun m => h (List.mem_cons_of_mem _ m)
/-- what is no dish is told back in an exception -/
def Odd (K : PySem.W.Frag) (n : Nat) (CN : Addr) (rs : Rows) (H : Hp) (x : V) (E : XK) : Prop := ∃ G, Cpre K n G H x ∧ ((∃ s, x = .str s ∧ s ∉ ksR rs) ∨ ∃ t, TyX K H x (.type t) ∧ kitB t "str" = some false) ∧ ∀ y dd H', Same H H' → H' dd = some (.xd [("name", y)]) → (∀ H2, (∀ b u, H' b = some u → (G b ≠ none ∨ H b = none) → H2 b = some u) → SD K n H2 x y) → E (.ref CN) (some dd) H'
def spChkD (K : PySem.W.Frag) (n : Nat) (CN : Addr) : Sp := fun vs H Q E => ∃ (q : Addr) (rs : Rows) (x : V), vs = [x, .ref q] ∧ Rd H q (.dK (kvR rs)) ∧ (ksR rs).Nodup ∧ ((∃ nm, x = .str nm ∧ nm ∈ ksR rs ∧ Q .non H) ∨ Odd K n CN rs H x E)
theorem ok_chkd (T : Txt K mg A) (n : Nat) : FnOk P w K mg base (L2.CX P w) (n + 3) A.a_check_dish A.d_check_dish P_check_dish (spChkD K n A.a_NoDish) := by
  have G_is_dish : FnOk P w K mg base CX0 1 A.a_is_dish A.d_is_dish P_is_dish (spIsDish K) := ok_isdish T
  have G_NoDish___init__ : FnOk P w K mg base CX0 (n + 1) A.a_NoDish___init__ A.d_NoDish___init__ P_NoDish___init__ (spNDI K n A.a_NoDish) := ok_ndi T n
  refine T.f_check_dish.okX sc_check_dish (fun vs H Q E h => ?_) (fun cdv A' outer s H vs Q E hr h => ?_)
  · obtain ⟨q, rs, x, rfl, _⟩ := h
    rfl
  · obtain ⟨q, rs, x, rfl, hq, nd, h⟩ := h
    refine ⟨_, (pss_one (ps_if (pt_not (pt_val (pe_call G_is_dish (hr.mono (by omega)) (by rfl) T.g_is_dish T.f_is_dish.kp T.b_is_dish .nil pass0 (pa_cons (pv 0) (pa_cons (pv 1) pa_nil)))))
 (pss_one (ps_raise rfl (takes_of rfl rfl rfl rfl) (pmk_oex T.xN T.iN T.tN G_NoDish___init__ (hr.mono (by omega)) T.b_NoDish___init__ .nil pass0 (by rfl) T.g_NoDish (pa_cons (pv 0) pa_nil))))
 pss_nil)), ?_⟩
    refine ⟨_, rfl, _, rfl, ?_⟩
    rcases h with ⟨nm, rfl, m, k⟩ | ⟨G, ⟨sG, hx⟩, ho, k⟩
    · obtain ⟨h, m⟩ := memR m
      refine ⟨_, q, _, rfl, hq, .inl ⟨nm, rfl, _, rfl, ?_⟩⟩
      rw [valR nd m]
      exact iteF k
    · have pre : ∀ a, H a = none → Cpre K n G (upd H a (exo a A.a_NoDish none)) x := fun a na => ⟨sG.trans (Same.new na), hx⟩
      have fin : ∀ (a : Addr), H a = none → ∀ y Hc dd, Same (upd H a (exo a A.a_NoDish none)) Hc → Hc dd = none → dd ≠ a → (∀ H', (∀ b u, Hc b = some u → b ≠ a → (G b ≠ none ∨ upd H a (exo a A.a_NoDish none) b = none) → H' b = some u) → SD K n H' x y) → ∀ H2 : Hp, H2 = upd (upd Hc dd (exd dd [("name", y)])) a (exo a A.a_NoDish (some dd)) →
          H2 a = some (exo a A.a_NoDish (some dd)) ∧ H2 dd = some (exd dd [("name", y)]) ∧ H dd = none ∧ E (.ref A.a_NoDish) (some dd) (upd (del H2 a) dd (.xd [("name", y)])) := by
        rintro a na y Hc dd s1 h1 h2 hs H2 rfl
        have sH : Same H Hc := (Same.new na).trans s1
        have keep : ∀ b u, Hc b = some u → b ≠ a → upd (del (upd (upd Hc dd (exd dd [("name", y)])) a (exo a A.a_NoDish (some dd))) a) dd (.xd [("name", y)]) b = some u := fun b u e ne => by
          have nd2 : b ≠ dd := fun z => by rw [z, h1] at e; cases e
          rw [upd_ne nd2, del_ne ne, upd_ne ne, upd_ne nd2]
          exact e
        refine ⟨upd_same, by rw [upd_ne h2, upd_same], sH.free h1, k y dd _ (fun b u e => keep b u (sH _ _ e) fun z => by rw [z, na] at e; cases e) upd_same fun H2 hh => hs _ fun b u e ne q => hh b u (keep b u e ne) (q.imp_right fun z => by rw [upd_ne ne] at z; exact z)⟩
      rcases ho with ⟨s, rfl, hs⟩ | ⟨t, ht, hk⟩
      · refine ⟨_, q, _, rfl, hq, .inl ⟨s, rfl, _, rfl, ?_⟩⟩
        rw [valR_none hs]
        refine iteT ⟨_, rfl, by show 1 ≤ 1000; decide, fun a na => ⟨a, _, G, rfl, upd_same, sG.free na, pre a na, fun y Hc dd s1 h1 h2 h3 => ⟨rfl, dd, _, fin a na y Hc dd s1 h1 h2 h3 _ rfl⟩⟩⟩
      · exact ⟨_, q, _, rfl, hq, .inr ⟨t, ht, hk, _, rfl, iteT ⟨_, rfl, by show 1 ≤ 1000; decide, fun a na => ⟨a, _, G, rfl, upd_same, sG.free na, pre a na, fun y Hc dd s1 h1 h2 h3 => ⟨rfl, dd, _, fin a na y Hc dd s1 h1 h2 h3 _ rfl⟩⟩⟩⟩⟩
end
end K5
set_option Elab.async false
set_option linter.all false
set_option maxRecDepth 100000
set_option maxHeartbeats 4000000
namespace K5
open PySem L2
local macro_rules | `(tactic| walk_at "rd1") => `(tactic| first
  | refine ⟨_, _, rfl, rfl, ?_⟩
  | refine ⟨_, _, _, _, rfl, rfl, SqL.of (by assumption), rfl, ?_⟩
  | refine ⟨_, _, _, _, rfl, rfl, (by assumption), rfl, ?_⟩
  | refine .inl ⟨_, rfl, ?_⟩
  | refine ⟨_, rfl, ?_⟩
  | refine ⟨(by unfold CMul; omega), ?_⟩
  | refine ⟨(by unfold CPow; omega), ?_⟩
  | refine ⟨(by (try dsimp only); omega), ?_⟩
  | refine ⟨(by unfold CDiv; omega), ?_⟩
  | fail "rd1")
local macro_rules | `(tactic| walk_at "rd") => `(tactic| repeat' (walk_at "rd1"))
section
variable {P : Program} {w : World} {K : PySem.W.Frag} {mg : Str → Option Value} {base : Heap} {A : Ad}

inductive Path (rows : Rows) : Str → List Str → Prop
  | clock : Path rows "clock" []
  | step {h h2 : Str} {ws : List Str} (ne : h ≠ "clock") (m : (h, h2) ∈ rows) (r : Path rows h2 ws) : Path rows h (h :: ws)
theorem Path.det {rows : Rows} (nd : (ksR rows).Nodup) : ∀ {h : Str} {ws ws' : List Str}, Path rows h ws → Path rows h ws' → ws = ws'
  | _, _, _, .clock, .clock => rfl
  | _, _, _, .clock, .step ne _ _ => absurd rfl ne
  | _, _, _, .step ne _ _, .clock => absurd rfl ne
  | _, _, _, .step _ m r, .step _ m' r' => by
    cases memSnd nd m m'
    rw [r.det nd r']
theorem path_ex {rk : Str → Nat} {rows : Rows} (O : ROk rk rows) : ∀ (n : Nat) (h : Str), msr rk h ≤ n → (h = "clock" ∨ h ∈ ksR rows) → ∃ ws, Path rows h ws ∧ ws.length ≤ msr rk h := by
  intro n
  induction n with
  | zero =>
    intro h hn hh
    have e : h = "clock" := Decidable.byContradiction fun z => by unfold msr at hn; rw [if_neg z] at hn; omega
    subst e
    exact ⟨[], .clock, Nat.zero_le _⟩
  | succ n ih =>
    intro h hn hh
    by_cases e : h = "clock"
    · subst e; exact ⟨[], .clock, Nat.zero_le _⟩
    · obtain ⟨h2, m⟩ := memR (hh.resolve_left e)
      have lt : msr rk h2 + 1 ≤ msr rk h := by
        have := O.acy _ _ m
        unfold msr
        rw [if_neg e]
        rcases this with q | q
        · rw [if_pos q]; omega
        · split
          · omega
          · have := q.2; omega
      obtain ⟨ws, p, l⟩ := ih h2 (by omega) ((O.acy _ _ m).imp_right And.left)
      exact ⟨h :: ws, .step e m p, by rw [List.length_cons]; omega⟩
theorem msr_le {rk : Str → Nat} {rows : Rows} (O : ROk rk rows) {h : Str} (hh : h = "clock" ∨ h ∈ ksR rows) : msr rk h ≤ 64 := by
  unfold msr
  split
  · omega
  · rename_i e
    have := O.rkb h (hh.resolve_left e)
    omega
/-- the way of a dish, from its hook on -/
def Way (rows : Rows) (nm : Str) (ws : List Str) : Prop := ∃ h, (nm, h) ∈ rows ∧ Path rows h ws ∧ ws.length ≤ 64
theorem way_ex {rk : Str → Nat} {rows : Rows} (O : ROk rk rows) {nm : Str} (hm : nm ∈ ksR rows) : ∃ ws, Way rows nm ws := by
  obtain ⟨h, m⟩ := memR hm
  have hh := (O.acy _ _ m).imp_right And.left
  obtain ⟨ws, p, l⟩ := path_ex O _ h (Nat.le_refl _) hh
  exact ⟨ws, h, m, p, Nat.le_trans l (msr_le O hh)⟩
def spWayUp : Sp := fun vs H Q _ => ∃ (q : Addr) (rs : Rows) (nm : Str) (ws : List Str), vs = [.str nm, .ref q] ∧ H q = some (.dK (kvR rs)) ∧ (ksR rs).Nodup ∧ Way rs nm ws ∧ ∀ l H', Same H H' → H l = none → H' l = some (.lst (ws.reverse.map V.str)) → Q (.ref l) H'
theorem ok_wayup (T : Txt K mg A) : FnOk P w K mg base CX0 1 A.a_way_up A.d_way_up P_way_up spWayUp := by
  refine T.f_way_up.ok sc_way_up (fun vs H Q E h => ?_) (fun cdv A' outer s H vs Q E hr h => ?_)
  · obtain ⟨q, rs, nm, ws, rfl, _⟩ := h
    rfl
  · obtain ⟨q, rs, nm, ws, rfl, hq, nd, ⟨h, m, pa, hl⟩, k⟩ := h
    refine ⟨_, (pss_cons (ps_set (i := 2) sc_way_up.nd rfl (Or.inl rfl) (pe_lst pa_nil))
 (pss_cons (ps_set (i := 3) sc_way_up.nd rfl (Or.inl rfl) (pe_dget (hu_of hr) (pv 1) (pv 0) (fun _ _ => rfl)))
 (pss_cons (ps_while PassesOwn.never (pt_cmpR op_ne (pv 3) (pe_glob (v := .str "clock") (by rfl) T.g_CLOCK.choose_spec ⟨_, rfl⟩) (nomark _))
 (pss_cons (ps_expr (pe_bm PySem.F.plainAttrs_list PySem.F.slot_list_append PySem.F.type_list_append mt_append (pv 2) (pa_cons (pv 3) pa_nil)))
 (pss_one (ps_set (i := 3) sc_way_up.nd rfl (Or.inl rfl) (pe_dget (hu_of hr) (pv 1) (pv 3) (fun _ _ => rfl))))))
 (pss_one (ps_ret (pe_revL (pv 2))))))), ?_⟩
    refine ⟨Nat.zero_le _, fun l nl => ?_⟩
    have s0 : Same H (upd H l (.lst [])) := Same.new nl
    refine ⟨_, rfl, _, rfl, q, _, rfl, .inl ⟨kvR rs, .inr nm, .inl (s0 _ _ hq), rfl, (valR nd m).symm⟩, ?_⟩
    refine while_ex (fun mm σ' H' => ∃ (as bs : List Str) (h : Str), σ' = [some (.str nm), some (.ref q), some (.ref l), some (.str h)] ∧ Same H H' ∧ H' l = some (.lst (as.map V.str)) ∧ as ++ bs = ws ∧ Path rs h bs ∧ mm = bs.length)
        (fun σ' H' => ∃ (u : V), σ' = [some (.str nm), some (.ref q), some (.ref l), some u] ∧ Same H H' ∧ H' l = some (.lst (ws.map V.str)))
        ⟨[], ws, h, rfl, s0, upd_same, rfl, pa, rfl⟩ (fun nx hnx => ?_) ?_
    · rintro mm σ' H' ⟨as, bs, h, rfl, s1, hl1, hab, pb, rfl⟩
      refine ⟨_, rfl, rfl, _, rfl, ite2 (fun c1 => ?_) (fun c1 => ?_)⟩
      · cases pb with
        | clock => cases c1
        | @step _ h2 bs' ne m2 r =>
          refine ⟨_, fun _ _ z => z, ?_⟩
          have la : as.length < 64 := by
            have := congrArg List.length hab
            rw [List.length_append, List.length_cons] at this
            omega
          refine ⟨_, rfl, .inl ⟨rfl, _, SqL.of hl1⟩, _, rfl, _, _, _, rfl, rfl, hl1, by rw [List.length_map]; exact Nat.lt_of_lt_of_le la (by decide), ?_⟩
          have s2 : Same H (upd H' l (.lst (as.map V.str ++ [.str h]))) := fun b u e => by rw [upd_ne (ne_of_none e nl)]; exact s1 _ _ e
          refine ⟨_, rfl, _, rfl, q, _, rfl, .inl ⟨kvR rs, .inr h, .inl (s2 _ _ hq), rfl, (valR nd m2).symm⟩, ?_⟩
          exact ⟨bs'.length, Nat.lt_succ_self _, as ++ [h], bs', h2, rfl, s2, by rw [upd_same, List.map_append]; rfl, by rw [List.append_assoc]; exact hab, r, rfl⟩
      · cases pb with
        | clock =>
          rw [List.append_nil] at hab
          subst hab
          exact hnx _ _ ⟨_, rfl, s1, hl1⟩
        | step ne m2 r => exact absurd (by rw [decide_eq_false (fun z => ne (V.str.inj z))]; rfl) c1
    · rintro σ' H' ⟨u, rfl, s1, hl1⟩
      refine ⟨_, rfl, l, _, rfl, SqL.of hl1, fun r hr => ?_⟩
      refine k r _ (s1.trans (Same.new hr)) (s1.free hr) ?_
      rw [upd_same, List.map_reverse]
theorem idx_of_take {ks : List Str} (nd : ks.Nodup) {i : Nat} {k : Str} (h : ks[i]? = some k) : ks.idxOf k = i := by
  obtain ⟨hi, e⟩ := List.getElem?_eq_some_iff.mp h
  have hm : k ∈ ks := by rw [← e]; exact List.getElem_mem hi
  have l1 := List.idxOf_lt_length_of_mem hm
  have e1 : ks[ks.idxOf k] = ks[i] := by rw [List.getElem_idxOf]; exact e.symm
  exact (List.getElem_inj nd).mp e1
theorem idx_lt {ks : List Str} (nd : ks.Nodup) {i : Nat} {h : Str} (m : h ∈ ks.take i) : ks.idxOf h < i := by
  obtain ⟨j, hj, e⟩ := List.getElem_of_mem m
  rw [List.length_take] at hj
  rw [List.getElem_take] at e
  have q : ks[j]? = some h := by rw [List.getElem?_eq_getElem (by omega), e]
  rw [idx_of_take nd q]
  omega
theorem ROk.tree {rows : Rows} (nd : (ksR rows).Nodup) (nm : ∀ s ∈ ksR rows, Nm s ∧ PyData.strOk s = true) (len : rows.length < 64) (t : Tree rows) : ROk (fun s => (ksR rows).idxOf s) rows := by
  refine ⟨nd, nm, len, fun k h m => ?_, fun s m => Nat.lt_trans (List.idxOf_lt_length_of_mem m) (by rw [ksR_len]; exact len)⟩
  obtain ⟨i, hi, e⟩ := List.getElem_of_mem m
  have q : rows[i]? = some (k, h) := by rw [List.getElem?_eq_getElem hi, e]
  refine (t i k h q).imp_right fun m2 => ?_
  have m3 : h ∈ (ksR rows).take i := by
    unfold ksR at m2 ⊢
    rw [← List.map_take]; exact m2
  refine ⟨List.mem_of_mem_take m3, ?_⟩
  show (ksR rows).idxOf h < (ksR rows).idxOf k
  have qk : (ksR rows)[i]? = some k := by unfold ksR; rw [List.getElem?_map, q]; rfl
  rw [idx_of_take nd qk]
  exact idx_lt nd m3
theorem sle_of_rising : ∀ {p : Str} {l : List Str}, PyProof.Rows.risingS p l = true → (p :: l).Pairwise sle
  | _, [], _ => List.pairwise_singleton ..
  | p, x :: r, h => by
    unfold PyProof.Rows.risingS at h
    rw [Bool.and_eq_true] at h
    have ih := sle_of_rising h.2
    have hx : sle p x := fun z => by
      have e : PySem.Spec.ltCps x.cps.toList p.cps.toList = true := by rw [PyProof.Rows.ltCps_eq]; exact decide_eq_true z
      rw [e] at h; cases h.1
    refine List.pairwise_cons.mpr ⟨fun y hy => ?_, ih⟩
    rcases List.mem_cons.mp hy with e | hy
    · rw [e]; exact hx
    · exact sle_trans hx ((List.pairwise_cons.mp ih).1 y hy)
theorem sle_sorted {l : List Str} (h : PyProof.Rows.sortedS l = true) : l.Pairwise sle := by
  cases l with
  | nil => exact List.Pairwise.nil
  | cons x r => exact sle_of_rising h
theorem sle_anti {x y : Str} (a : sle x y) (b : sle y x) : x = y := by
  obtain ⟨x⟩ := x
  obtain ⟨y⟩ := y
  have e : x.toList = y.toList := List.le_antisymm (List.not_lt.mp a) (List.not_lt.mp b)
  rw [Array.toList_inj.mp e]
theorem asc_eq {xs ys : List Str} (p : xs.Perm ys) (hx : PyProof.Rows.sortedS xs = true) (hy : ys.Pairwise sle) : xs = ys :=
  p.eq_of_pairwise (fun _ _ _ _ a b => sle_anti a b) (sle_sorted hx) hy
/-- the rows in the order of these keys -/
def rowsAt (rows : Rows) (ys : List Str) : Rows := ys.map fun y => (y, match valV (kvR rows) (.inr y) with | some (.str h) => h | _ => y)
theorem ksR_at (rows : Rows) (ys : List Str) : ksR (rowsAt rows ys) = ys := by unfold ksR rowsAt; rw [List.map_map]; exact List.map_id _
theorem asc_rows {rows rs : Rows} (nd : (ksR rows).Nodup) (a : Asc rows rs) : rs = rowsAt rows (ksR rs) := by
  have key : ∀ l : Rows, (∀ k h, (k, h) ∈ l → (k, h) ∈ rows) → l = rowsAt rows (ksR l) := fun l => by
    induction l with
    | nil => intro _; rfl
    | cons r l ih =>
      intro hm
      have e := ih fun k h m => hm k h (List.mem_cons_of_mem _ m)
      have m : (r.1, r.2) ∈ rows := hm _ _ (List.mem_cons_self ..)
      show r :: l = (r.1, match valV (kvR rows) (.inr r.1) with | some (.str h) => h | _ => r.1) :: rowsAt rows (ksR l)
      rw [valR nd m, ← e]
  exact key rs a.mem
end
end K5
set_option Elab.async false
set_option linter.all false
set_option maxRecDepth 100000
set_option maxHeartbeats 4000000
namespace K5
open PySem L2
local macro_rules | `(tactic| walk_at "rd1") => `(tactic| first
  | refine ⟨_, _, rfl, rfl, ?_⟩
  | refine ⟨_, _, _, _, rfl, rfl, SqL.of (by assumption), rfl, ?_⟩
  | refine ⟨_, _, _, _, rfl, rfl, (by assumption), rfl, ?_⟩
  | refine .inl ⟨_, rfl, ?_⟩
  | refine ⟨_, rfl, ?_⟩
  | refine ⟨(by unfold CMul; omega), ?_⟩
  | refine ⟨(by unfold CPow; omega), ?_⟩
  | refine ⟨(by (try dsimp only); omega), ?_⟩
  | refine ⟨(by unfold CDiv; omega), ?_⟩
  | fail "rd1")
local macro_rules | `(tactic| walk_at "rd") => `(tactic| repeat' (walk_at "rd1"))
section
variable {P : Program} {w : World} {K : PySem.W.Frag} {mg : Str → Option Value} {base : Heap} {A : Ad}

def isI : PyData → Bool | .int _ => true | _ => false
def isL : PyData → Bool | .list _ => true | .tuple _ => true | _ => false
def spIsInt (K : PySem.W.Frag) : Sp := fun vs H Q _ => ∃ (x : V) (d : PyData), vs = [x] ∧ Dp K H x d ∧ Q (.bl (isI d)) H
def spIsList (K : PySem.W.Frag) : Sp := fun vs H Q _ => ∃ (x : V) (d : PyData), vs = [x] ∧ Dp K H x d ∧ ∀ H', Same H H' → Q (.bl (isL d)) H'
theorem ok_isint (T : Txt K mg A) : FnOk P w K mg base CX0 1 A.a_is_integer A.d_is_integer P_is_integer (spIsInt K) := by
  refine T.f_is_integer.ok sc_is_integer (fun vs H Q E h => ?_) (fun cdv A' outer s H vs Q E hr h => ?_)
  · obtain ⟨x, d, rfl, _⟩ := h
    rfl
  · obtain ⟨x, d, rfl, hx, k⟩ := h
    refine ⟨_, (pss_one (ps_ret (pe_and (pe_callB call_isi (by rfl) T.isinstance (by decide +kernel) (pa_cons (pv 0) (pa_cons (pe_bltn (v := .ty "int") (u := .type "int") (by rfl) T.int (by decide +kernel) rfl) pa_nil))) (pe_one (pe_not (pe_callB call_isi (by rfl) T.isinstance (by decide +kernel) (pa_cons (pv 0) (pa_cons (pe_bltn (v := .ty "bool") (u := .type "bool") (by rfl) T.bool (by decide +kernel) rfl) pa_nil)))))))), ?_⟩
    cases hx with
    | non => exact ⟨_, rfl, _, _, .type "NoneType", _, false, rfl, .ty _, .base .non, kit_ty (by decide +kernel), _, rfl, iteF k⟩
    | str z => exact ⟨_, rfl, _, _, .type "str", _, false, rfl, .ty _, .base (.str _), kit_ty (by decide +kernel), _, rfl, iteF k⟩
    | int i => exact ⟨_, rfl, _, _, .type "int", _, true, rfl, .ty _, .base (.int _), kit_ty (by decide +kernel), _, rfl, iteT ⟨_, rfl, _, _, .type "int", _, false, rfl, .ty _, .base (.int _), kit_ty (by decide +kernel), _, rfl, k⟩⟩
    | bl b => exact ⟨_, rfl, _, _, .type "bool", _, true, rfl, .ty _, .base (.bl _), kit_ty (by decide +kernel), _, rfl, iteT ⟨_, rfl, _, _, .type "bool", _, true, rfl, .ty _, .base (.bl _), kit_ty (by decide +kernel), _, rfl, k⟩⟩
    | lst h _ => exact ⟨_, rfl, _, _, .type "list", _, false, rfl, .ty _, tyL h, kit_ty (by decide +kernel), _, rfl, iteF k⟩
    | tup h _ => exact ⟨_, rfl, _, _, .type "tuple", _, false, rfl, .ty _, tyT h, kit_ty (by decide +kernel), _, rfl, iteF k⟩
theorem ok_islist (T : Txt K mg A) : FnOk P w K mg base CX0 1 A.a_is_list A.d_is_list P_is_list (spIsList K) := by
  refine T.f_is_list.ok sc_is_list (fun vs H Q E h => ?_) (fun cdv A' outer s H vs Q E hr h => ?_)
  · obtain ⟨x, d, rfl, _⟩ := h
    rfl
  · obtain ⟨x, d, rfl, hx, k⟩ := h
    refine ⟨_, (pss_one (ps_ret (pe_callB call_isiT (by rfl) T.isinstance (by decide +kernel) (pa_cons (pv 0) (pa_cons (pe_tup (pa_cons (pe_bltn (v := .ty "list") (u := .type "list") (by rfl) T.list (by decide +kernel) rfl) (pa_cons (pe_bltn (v := .ty "tuple") (u := .type "tuple") (by rfl) T.tuple (by decide +kernel) rfl) pa_nil))) pa_nil))))), ?_⟩
    refine ⟨_, rfl, by show 2 ≤ sizeLine; decide, fun p hp => ?_⟩
    have s1 : Same H (upd H p (.tup [.ty "list", .ty "tuple"])) := Same.new hp
    have k := k _ s1
    cases dpSame s1 hx with
    | non => exact ⟨_, p, _, _, _, false, rfl, upd_same, .cons (.ty _) (.cons (.ty _) .nil), .base .non, kit2 (a := "NoneType") (b := "list") (c := "tuple") (r := false) (s := false) (by decide +kernel) (by decide +kernel), k⟩
    | str z => exact ⟨_, p, _, _, _, false, rfl, upd_same, .cons (.ty _) (.cons (.ty _) .nil), .base (.str _), kit2 (a := "str") (b := "list") (c := "tuple") (r := false) (s := false) (by decide +kernel) (by decide +kernel), k⟩
    | int z => exact ⟨_, p, _, _, _, false, rfl, upd_same, .cons (.ty _) (.cons (.ty _) .nil), .base (.int _), kit2 (a := "int") (b := "list") (c := "tuple") (r := false) (s := false) (by decide +kernel) (by decide +kernel), k⟩
    | bl z => exact ⟨_, p, _, _, _, false, rfl, upd_same, .cons (.ty _) (.cons (.ty _) .nil), .base (.bl _), kit2 (a := "bool") (b := "list") (c := "tuple") (r := false) (s := false) (by decide +kernel) (by decide +kernel), k⟩
    | lst h _ => exact ⟨_, p, _, _, _, true, rfl, upd_same, .cons (.ty _) (.cons (.ty _) .nil), tyL h, kit2 (a := "list") (b := "list") (c := "tuple") (r := true) (s := false) (by decide +kernel) (by decide +kernel), k⟩
    | tup h _ => exact ⟨_, p, _, _, _, true, rfl, upd_same, .cons (.ty _) (.cons (.ty _) .nil), tyT h, kit2 (a := "tuple") (b := "list") (c := "tuple") (r := false) (s := true) (by decide +kernel) (by decide +kernel), k⟩
end
end K5
set_option Elab.async false
set_option linter.all false
set_option maxRecDepth 100000
set_option maxHeartbeats 4000000
namespace K5
open PySem L2
local macro_rules | `(tactic| walk_at "rd1") => `(tactic| first
  | refine ⟨_, _, rfl, rfl, ?_⟩
  | refine ⟨_, _, _, _, rfl, rfl, SqL.of (by assumption), rfl, ?_⟩
  | refine ⟨_, _, _, _, rfl, rfl, (by assumption), rfl, ?_⟩
  | refine .inl ⟨_, rfl, ?_⟩
  | refine ⟨_, rfl, ?_⟩
  | refine ⟨(by unfold CMul; omega), ?_⟩
  | refine ⟨(by unfold CPow; omega), ?_⟩
  | refine ⟨(by (try dsimp only); omega), ?_⟩
  | refine ⟨(by unfold CDiv; omega), ?_⟩
  | fail "rd1")
local macro_rules | `(tactic| walk_at "rd") => `(tactic| repeat' (walk_at "rd1"))
section
variable {P : Program} {w : World} {K : PySem.W.Frag} {mg : Str → Option Value} {base : Heap} {A : Ad}

/-! ### dicts told by functions of the names -/
def kvF (ns : List Str) (f : Str → V) : List (Key × V) := ns.map fun n => (.inr n, f n)
theorem kvF_keys (ns : List Str) (f : Str → V) : (kvF ns f).map (·.1) = ns.map Sum.inr := by simp [kvF]
theorem kvF_len (ns : List Str) (f : Str → V) : (kvF ns f).length = ns.length := by simp [kvF]
theorem inr_nd {ns : List Str} (h : ns.Nodup) : (ns.map (Sum.inr : Str → Key)).Nodup := List.pairwise_map.mpr (h.imp fun n e => n (Sum.inr.inj e))
theorem kvF_snoc (ns : List Str) (n : Str) (f : Str → V) : kvF (ns ++ [n]) f = kvF ns f ++ [(.inr n, f n)] := by simp [kvF]
theorem kvF_at {ns : List Str} {f : Str → V} {i : Nat} {k : Key} {v : V} (h : (kvF ns f)[i]? = some (k, v)) : ∃ hi : i < ns.length, k = .inr ns[i] ∧ v = f ns[i] := by
  have hi : i < ns.length := by
    have := (List.getElem?_eq_some_iff.mp h).1
    rwa [kvF_len] at this
  unfold kvF at h
  rw [List.getElem?_map, List.getElem?_eq_getElem hi] at h
  cases h
  exact ⟨hi, rfl, rfl⟩
theorem kvF_val {ns : List Str} {f : Str → V} {n : Str} (nd : ns.Nodup) (m : n ∈ ns) : valV (kvF ns f) (.inr n) = some (f n) := by
  obtain ⟨i, hi, e⟩ := List.getElem_of_mem m
  refine valV_at (i := i) (by rw [kvF_keys]; exact inr_nd nd) ?_
  unfold kvF
  rw [List.getElem?_map, List.getElem?_eq_getElem hi, e]; rfl
def rowsF (ns : List Str) (hk : Str → Str) : Rows := ns.map fun n => (n, hk n)
theorem kvR_F (ns : List Str) (hk : Str → Str) : kvR (rowsF ns hk) = kvF ns fun n => .str (hk n) := by simp [kvR, rowsF, kvF]
theorem ksR_F (ns : List Str) (hk : Str → Str) : ksR (rowsF ns hk) = ns := by unfold ksR rowsF; rw [List.map_map]; exact List.map_id _
theorem rows_fn {rows : Rows} (nd : (ksR rows).Nodup) : ∃ hk : Str → Str, rows = rowsF (ksR rows) hk := by
  refine ⟨fun y => match valV (kvR rows) (.inr y) with | some (.str h) => h | _ => y, ?_⟩
  have key : ∀ l : Rows, (∀ r ∈ l, r ∈ rows) → l = rowsF (ksR l) fun y => match valV (kvR rows) (.inr y) with | some (.str h) => h | _ => y := fun l => by
    induction l with
    | nil => intro _; rfl
    | cons r l ih =>
      intro hm
      have e := ih fun r h => hm r (List.mem_cons_of_mem _ h)
      have m : (r.1, r.2) ∈ rows := hm _ (List.mem_cons_self ..)
      show r :: l = (r.1, match valV (kvR rows) (.inr r.1) with | some (.str h) => h | _ => r.1) :: rowsF (ksR l) _
      rw [valR nd m, ← e]
  exact key rows fun _ h => h
theorem mem_F {ns : List Str} {hk : Str → Str} {n : Str} (m : n ∈ ns) : (n, hk n) ∈ rowsF ns hk := List.mem_map.mpr ⟨n, m, rfl⟩
theorem of_mem_F {ns : List Str} {hk : Str → Str} {n h : Str} (m : (n, h) ∈ rowsF ns hk) : n ∈ ns ∧ h = hk n := by
  obtain ⟨k, hk2, e⟩ := List.mem_map.mp m
  cases e
  exact ⟨hk2, rfl⟩
/-- a dict of names with pairs: their values stand in tuples -/
structure Pr2 (K : PySem.W.Frag) (H : Hp) (ns : List Str) (f g : Str → V) (kvs : List (Key × V)) : Prop where
  keys : kvs.map (·.1) = ns.map Sum.inr
  at_ : ∀ (i : Nat) (n : Str), ns[i]? = some n → ∃ a : Addr, kvs[i]? = some (.inr n, .ref a) ∧ SqT K H a [f n, g n]
theorem Pr2.up {H H' : Hp} {ns : List Str} {f g : Str → V} {kvs : List (Key × V)} (h : Pr2 K H ns f g kvs) (s : Same H H') : Pr2 K H' ns f g kvs :=
  ⟨h.keys, fun i n e => by obtain ⟨a, e1, e2⟩ := h.at_ i n e; exact ⟨a, e1, stUp e2 s⟩⟩
theorem Pr2.er {H : Hp} {p : Addr} {u : HO} {ns : List Str} {f g : Str → V} {kvs : List (Key × V)} (h : Pr2 K H ns f g kvs) (hp : H p = some u) (hu : NoTup u) : Pr2 K (er H p) ns f g kvs :=
  ⟨h.keys, fun i n e => by obtain ⟨a, e1, e2⟩ := h.at_ i n e; exact ⟨a, e1, tupEr hp hu e2⟩⟩
theorem Pr2.set {H : Hp} {p : Addr} {u o : HO} {ns : List Str} {f g : Str → V} {kvs : List (Key × V)} (h : Pr2 K H ns f g kvs) (hp : H p = some u) (hu : NoTup u) : Pr2 K (upd H p o) ns f g kvs :=
  ⟨h.keys, fun i n e => by obtain ⟨a, e1, e2⟩ := h.at_ i n e; exact ⟨a, e1, tupSet hp hu e2⟩⟩
theorem Pr2.len {H : Hp} {ns : List Str} {f g : Str → V} {kvs : List (Key × V)} (h : Pr2 K H ns f g kvs) : kvs.length = ns.length := by
  have := congrArg List.length h.keys
  rwa [List.length_map, List.length_map] at this
theorem Pr2.nil {H : Hp} {f g : Str → V} : Pr2 K H [] f g [] := ⟨rfl, fun i n e => by simp at e⟩
theorem Pr2.snoc {H : Hp} {ns : List Str} {f g : Str → V} {kvs : List (Key × V)} {n : Str} {a : Addr} (h : Pr2 K H ns f g kvs) (ha : SqT K H a [f n, g n]) : Pr2 K H (ns ++ [n]) f g (kvs ++ [(.inr n, .ref a)]) := by
  refine ⟨by rw [List.map_append, List.map_append, h.keys]; rfl, fun i m e => ?_⟩
  rcases Nat.lt_or_ge i ns.length with lt | ge
  · rw [List.getElem?_append_left lt] at e
    rw [List.getElem?_append_left (by rw [h.len]; exact lt)]
    exact h.at_ i m e
  · rw [List.getElem?_append_right ge] at e
    rw [List.getElem?_append_right (by rw [h.len]; exact ge), h.len]
    cases e0 : i - ns.length with
    | zero => rw [e0] at e; cases e; exact ⟨a, rfl, ha⟩
    | succ j => rw [e0] at e; simp at e
theorem Pr2.get {H : Hp} {ns : List Str} {f g : Str → V} {kvs : List (Key × V)} (h : Pr2 K H ns f g kvs) {i : Nat} {k : Key} {v : V} (e : kvs[i]? = some (k, v)) : ∃ (hi : i < ns.length) (a : Addr), k = .inr ns[i] ∧ v = .ref a ∧ SqT K H a [f ns[i], g ns[i]] := by
  have hi : i < ns.length := by rw [← h.len]; exact (List.getElem?_eq_some_iff.mp e).1
  obtain ⟨a, e1, e2⟩ := h.at_ i ns[i] (List.getElem?_eq_getElem hi)
  rw [e] at e1
  cases e1
  exact ⟨hi, a, rfl, rfl, e2⟩
theorem Pr2.val {H : Hp} {ns : List Str} {f g : Str → V} {kvs : List (Key × V)} (h : Pr2 K H ns f g kvs) (nd : ns.Nodup) {n : Str} (m : n ∈ ns) : ∃ a : Addr, valV kvs (.inr n) = some (.ref a) ∧ SqT K H a [f n, g n] := by
  obtain ⟨i, hi, e⟩ := List.getElem_of_mem m
  obtain ⟨a, e1, e2⟩ := h.at_ i n (by rw [List.getElem?_eq_getElem hi, e])
  exact ⟨a, valV_at (by rw [h.keys]; exact inr_nd nd) e1, e2⟩
theorem Pr2.congr {H : Hp} {ns : List Str} {f g f' g' : Str → V} {kvs : List (Key × V)} (h : Pr2 K H ns f g kvs) (e : ∀ n ∈ ns, f n = f' n ∧ g n = g' n) : Pr2 K H ns f' g' kvs :=
  ⟨h.keys, fun i n q => by
    obtain ⟨a, e1, e2⟩ := h.at_ i n q
    obtain ⟨x, y⟩ := e n (List.mem_of_getElem? q)
    exact ⟨a, e1, by rw [← x, ← y]; exact e2⟩⟩
end
end K5
set_option Elab.async false
set_option linter.all false
set_option maxRecDepth 100000
set_option maxHeartbeats 4000000
namespace K5
open PySem L2
local macro_rules | `(tactic| walk_at "rd1") => `(tactic| first
  | refine ⟨_, _, rfl, rfl, ?_⟩
  | refine ⟨_, _, _, _, rfl, rfl, SqL.of (by assumption), rfl, ?_⟩
  | refine ⟨_, _, _, _, rfl, rfl, (by assumption), rfl, ?_⟩
  | refine .inl ⟨_, rfl, ?_⟩
  | refine ⟨_, rfl, ?_⟩
  | refine ⟨(by unfold CMul; omega), ?_⟩
  | refine ⟨(by unfold CPow; omega), ?_⟩
  | refine ⟨(by (try dsimp only); omega), ?_⟩
  | refine ⟨(by unfold CDiv; omega), ?_⟩
  | fail "rd1")
local macro_rules | `(tactic| walk_at "rd") => `(tactic| repeat' (walk_at "rd1"))
section
variable {P : Program} {w : World} {K : PySem.W.Frag} {mg : Str → Option Value} {base : Heap} {A : Ad}

/-- neither a list nor a tuple -/
structure NoSq (u : HO) : Prop where
  t : NoTup u
  l : ∀ xs, u ≠ .lst xs
  f : ∀ o xs, u ≠ .frz o (.lst xs)
theorem noSq_dK (kvs : List (Key × V)) : NoSq (.dK kvs) := ⟨noTup_dK _, fun _ z => (nomatch z), fun _ _ z => (nomatch z)⟩
theorem noSq_ins (C dx : Addr) (fs : List (Str × V)) : NoSq (.ins C dx fs) := ⟨⟨fun _ z => (nomatch z), fun _ _ z => (nomatch z)⟩, fun _ z => (nomatch z), fun _ _ z => (nomatch z)⟩
theorem noSq_frz (o : Obj) (kvs : List (Key × V)) : NoSq (.frz o (.dK kvs)) := ⟨⟨fun _ z => (nomatch z), fun _ _ z => (nomatch z)⟩, fun _ z => (nomatch z), fun _ _ z => (nomatch z)⟩
theorem sxUp {H H' : Hp} {a : Addr} {xs : List V} (h : SqX K H a xs) (s : Same H H') : SqX K H' a xs := h.elim (fun q => .inl (sqUp q s)) (fun q => .inr (stUp q s))
theorem sxEr {H : Hp} {p a : Addr} {u : HO} {xs : List V} (hp : H p = some u) (hu : NoSq u) (h : SqX K H a xs) : SqX K (er H p) a xs := by
  rcases h with h | h
  · refine .inl ?_
    rcases h with (e | ⟨o, e⟩) | k
    · exact .inl (.inl (er_of (fun z => by rw [z, hp] at e; exact hu.l _ (Option.some.inj e)) e))
    · exact .inl (.inr ⟨o, er_of (fun z => by rw [z, hp] at e; exact hu.f _ _ (Option.some.inj e)) e⟩)
    · exact .inr k
  · exact .inr (tupEr hp hu.t h)
theorem sxSet {H : Hp} {p a : Addr} {u o : HO} {xs : List V} (hp : H p = some u) (hu : NoSq u) (h : SqX K H a xs) : SqX K (upd H p o) a xs := by
  refine sxUp (sxEr hp hu h) fun b v e => ?_
  have q := er_some e
  rw [upd_ne q.1]; exact q.2
/-! ### rows of pairs, each a list or a tuple -/
structure PrX (K : PySem.W.Frag) (H : Hp) (ns : List Str) (f g : Str → V) (kvs : List (Key × V)) : Prop where
  keys : kvs.map (·.1) = ns.map Sum.inr
  at_ : ∀ (i : Nat) (n : Str), ns[i]? = some n → ∃ a : Addr, kvs[i]? = some (.inr n, .ref a) ∧ SqX K H a [f n, g n]
theorem PrX.up {H H' : Hp} {ns : List Str} {f g : Str → V} {kvs : List (Key × V)} (h : PrX K H ns f g kvs) (s : Same H H') : PrX K H' ns f g kvs :=
  ⟨h.keys, fun i n e => by obtain ⟨a, e1, e2⟩ := h.at_ i n e; exact ⟨a, e1, sxUp e2 s⟩⟩
theorem PrX.er {H : Hp} {p : Addr} {u : HO} {ns : List Str} {f g : Str → V} {kvs : List (Key × V)} (h : PrX K H ns f g kvs) (hp : H p = some u) (hu : NoSq u) : PrX K (er H p) ns f g kvs :=
  ⟨h.keys, fun i n e => by obtain ⟨a, e1, e2⟩ := h.at_ i n e; exact ⟨a, e1, sxEr hp hu e2⟩⟩
theorem PrX.set {H : Hp} {p : Addr} {u o : HO} {ns : List Str} {f g : Str → V} {kvs : List (Key × V)} (h : PrX K H ns f g kvs) (hp : H p = some u) (hu : NoSq u) : PrX K (upd H p o) ns f g kvs :=
  ⟨h.keys, fun i n e => by obtain ⟨a, e1, e2⟩ := h.at_ i n e; exact ⟨a, e1, sxSet hp hu e2⟩⟩
theorem PrX.len {H : Hp} {ns : List Str} {f g : Str → V} {kvs : List (Key × V)} (h : PrX K H ns f g kvs) : kvs.length = ns.length := by
  have := congrArg List.length h.keys
  rwa [List.length_map, List.length_map] at this
theorem PrX.nil {H : Hp} {f g : Str → V} : PrX K H [] f g [] := ⟨rfl, fun i n e => by simp at e⟩
theorem PrX.snoc {H : Hp} {ns : List Str} {f g : Str → V} {kvs : List (Key × V)} {n : Str} {a : Addr} (h : PrX K H ns f g kvs) (ha : SqX K H a [f n, g n]) : PrX K H (ns ++ [n]) f g (kvs ++ [(.inr n, .ref a)]) := by
  refine ⟨by rw [List.map_append, List.map_append, h.keys]; rfl, fun i m e => ?_⟩
  rcases Nat.lt_or_ge i ns.length with lt | ge
  · rw [List.getElem?_append_left lt] at e
    rw [List.getElem?_append_left (by rw [h.len]; exact lt)]
    exact h.at_ i m e
  · rw [List.getElem?_append_right ge] at e
    rw [List.getElem?_append_right (by rw [h.len]; exact ge), h.len]
    cases e0 : i - ns.length with
    | zero => rw [e0] at e; cases e; exact ⟨a, rfl, ha⟩
    | succ j => rw [e0] at e; simp at e
theorem PrX.get {H : Hp} {ns : List Str} {f g : Str → V} {kvs : List (Key × V)} (h : PrX K H ns f g kvs) {i : Nat} {k : Key} {v : V} (e : kvs[i]? = some (k, v)) : ∃ (hi : i < ns.length) (a : Addr), k = .inr ns[i] ∧ v = .ref a ∧ SqX K H a [f ns[i], g ns[i]] := by
  have hi : i < ns.length := by rw [← h.len]; exact (List.getElem?_eq_some_iff.mp e).1
  obtain ⟨a, e1, e2⟩ := h.at_ i ns[i] (List.getElem?_eq_getElem hi)
  rw [e] at e1
  cases e1
  exact ⟨hi, a, rfl, rfl, e2⟩
theorem PrX.val {H : Hp} {ns : List Str} {f g : Str → V} {kvs : List (Key × V)} (h : PrX K H ns f g kvs) (nd : ns.Nodup) {n : Str} (m : n ∈ ns) : ∃ a : Addr, valV kvs (.inr n) = some (.ref a) ∧ SqX K H a [f n, g n] := by
  obtain ⟨i, hi, e⟩ := List.getElem_of_mem m
  obtain ⟨a, e1, e2⟩ := h.at_ i n (by rw [List.getElem?_eq_getElem hi, e])
  exact ⟨a, valV_at (by rw [h.keys]; exact inr_nd nd) e1, e2⟩
theorem PrX.congr {H : Hp} {ns : List Str} {f g f' g' : Str → V} {kvs : List (Key × V)} (h : PrX K H ns f g kvs) (e : ∀ n ∈ ns, f n = f' n ∧ g n = g' n) : PrX K H ns f' g' kvs :=
  ⟨h.keys, fun i n q => by
    obtain ⟨a, e1, e2⟩ := h.at_ i n q
    obtain ⟨x, y⟩ := e n (List.mem_of_getElem? q)
    exact ⟨a, e1, by rw [← x, ← y]; exact e2⟩⟩

theorem Pr2.x {H : Hp} {ns : List Str} {f g : Str → V} {kvs : List (Key × V)} (h : Pr2 K H ns f g kvs) : PrX K H ns f g kvs := ⟨h.keys, fun i n e => by obtain ⟨a, e1, e2⟩ := h.at_ i n e; exact ⟨a, e1, .inr e2⟩⟩
end
end K5
set_option Elab.async false
set_option linter.all false
set_option maxRecDepth 100000
set_option maxHeartbeats 4000000
namespace K5
open PySem L2
local macro_rules | `(tactic| walk_at "rd1") => `(tactic| first
  | refine ⟨_, _, rfl, rfl, ?_⟩
  | refine ⟨_, _, _, _, rfl, rfl, SqL.of (by assumption), rfl, ?_⟩
  | refine ⟨_, _, _, _, rfl, rfl, (by assumption), rfl, ?_⟩
  | refine .inl ⟨_, rfl, ?_⟩
  | refine ⟨_, rfl, ?_⟩
  | refine ⟨(by unfold CMul; omega), ?_⟩
  | refine ⟨(by unfold CPow; omega), ?_⟩
  | refine ⟨(by (try dsimp only); omega), ?_⟩
  | refine ⟨(by unfold CDiv; omega), ?_⟩
  | fail "rd1")
local macro_rules | `(tactic| walk_at "rd") => `(tactic| repeat' (walk_at "rd1"))
section
variable {P : Program} {w : World} {K : PySem.W.Frag} {mg : Str → Option Value} {base : Heap} {A : Ad}

def kvW (ys : List Str) (wt : Str → Int) : List (Key × V) := kvF ys fun n => .int (wt n)
structure BkAt (C : Addr) (H : Hp) (p : Addr) (ys : List Str) (hk : Str → Str) (wt : Str → Int) : Prop where
  ex : ∃ (dx qh qw : Addr), H p = some (.ins C dx [("hooks", .ref qh), ("waits", .ref qw)]) ∧ H qh = some (.dK (kvF ys fun n => .str (hk n))) ∧ H qw = some (.dK (kvF ys fun n => .int (wt n)))
theorem BkAt.up {C : Addr} {H H' : Hp} {p : Addr} {ys : List Str} {hk : Str → Str} {wt : Str → Int} (h : BkAt C H p ys hk wt) (s : Same H H') : BkAt C H' p ys hk wt := by
  obtain ⟨dx, qh, qw, h1, h2, h3⟩ := h.ex
  exact ⟨dx, qh, qw, s _ _ h1, s _ _ h2, s _ _ h3⟩
def spBIter (C : Addr) (n : Nat) : Sp := fun vs H Q _ => ∃ (p dx qh qw : Addr) (od : Obj) (kvs : List (Key × V)), vs = [.ref p] ∧ H p = some (.ins C dx [("hooks", .ref qh), ("waits", .ref qw)]) ∧ H qh = some (.frz od (.dK kvs)) ∧ ∀ it, H it = none → n ≤ it → Q (.ref it) (upd H it (Own.KiO qh od it))
theorem ok_biter (T : Txt K mg A) : FnOk P w K mg base CX0 1 A.a_Book___iter__ A.d_Book___iter__ P_Book___iter__ (spBIter A.a_Book base.objs.size) := by
  refine T.f_Book___iter__.ok sc_Book___iter__ (fun vs H Q E h => ?_) (fun cdv A' outer s H vs Q E hr h => ?_)
  · obtain ⟨p, dx, qh, qw, od, kvs, rfl, _⟩ := h
    rfl
  · obtain ⟨p, dx, qh, qw, od, kvs, rfl, hp, hb, k⟩ := h
    refine ⟨_, (pss_one (ps_ret (pe_callB Own.call_iterD (by rfl) T.iter (by decide +kernel) (pa_cons (pe_fld (pv 0) rfl) pa_nil)))), ?_⟩
    exact ⟨_, rfl, p, A.a_Book, dx, _, _, rfl, hp, T.cl_B, T.nBH, by rfl, qh, od, kvs, rfl, hb, k⟩
def spIsWait (K : PySem.W.Frag) : Sp := fun vs H Q _ => ∃ (i : Int), vs = [.int i] ∧ 0 ≤ i ∧ Q (.bl true) H
theorem ok_iswait (T : Txt K mg A) : FnOk P w K mg base CX0 2 A.a_is_wait A.d_is_wait P_is_wait (spIsWait K) := by
  have G_is_integer : FnOk P w K mg base CX0 1 A.a_is_integer A.d_is_integer P_is_integer (spIsInt K) := ok_isint T
  refine T.f_is_wait.ok sc_is_wait (fun vs H Q E h => ?_) (fun cdv A' outer s H vs Q E hr h => ?_)
  · obtain ⟨i, rfl, _⟩ := h
    rfl
  · obtain ⟨i, rfl, h0, k⟩ := h
    refine ⟨_, (pss_one (ps_ret (pe_and (pe_call G_is_integer (hr.mono (by omega)) (by rfl) T.g_is_integer T.f_is_integer.kp T.b_is_integer .nil pass0 (pa_cons (pv 0) pa_nil)) (pe_one (pe_cmpR op_ge (pv 0) pe_int (nomark _)))))), ?_⟩
    refine ⟨_, rfl, .int i, .int i, rfl, .int i, _, rfl, iteT ?_⟩
    refine ⟨_, rfl, _, _, rfl, rfl, ?_⟩
    show Q (.bl (decide (0 ≤ i))) H
    rw [decide_eq_true h0]
    exact k
/-- a row of a book: what it hangs on and the wait, in a tuple -/
def spEntry (K : PySem.W.Frag) : Sp := fun vs H Q _ => ∃ (a d : Addr) (od : Obj) (kvs : List (Key × V)) (ks : List Str) (h : Str) (i : Int), vs = [.ref a, .ref d] ∧ SqX K H a [.str h, .int i] ∧ H d = some (.frz od (.dK kvs)) ∧ kvs.map (·.1) = ks.map Sum.inr ∧ ks.length < 64 ∧ (h = "clock" ∨ h ∈ ks) ∧ 0 ≤ i ∧ ∀ H', Same H H' → Q (.bl true) H'
theorem ok_entry (T : Txt K mg A) : FnOk P w K mg base CX0 3 A.a_is_entry A.d_is_entry P_is_entry (spEntry K) := by
  have G_is_list : FnOk P w K mg base CX0 1 A.a_is_list A.d_is_list P_is_list (spIsList K) := ok_islist T
  have G_is_hook : FnOk P w K mg base CX0 2 A.a_is_hook A.d_is_hook P_is_hook spHook := ok_hook T
  have G_is_wait : FnOk P w K mg base CX0 2 A.a_is_wait A.d_is_wait P_is_wait (spIsWait K) := ok_iswait T
  refine T.f_is_entry.ok sc_is_entry (fun vs H Q E h => ?_) (fun cdv A' outer s H vs Q E hr h => ?_)
  · obtain ⟨a, d, od, kvs, ks, h, i, rfl, _⟩ := h
    rfl
  · obtain ⟨a, d, od, kvs, ks, h, i, rfl, ha, hd, hks, hl, hh, h0, k⟩ := h
    refine ⟨_, (pss_cons (ps_if (PW.pt (pw_or (pt_not (pt_val (pe_call G_is_list (hr.mono (by omega)) (by rfl) T.g_is_list T.f_is_list.kp T.b_is_list .nil pass0 (pa_cons (pv 0) pa_nil)))) (pw_or1 (pt_cmpR op_ne (pe_callB call_len_seq (by rfl) T.len PySem.boot_len (pa_cons (pv 0) pa_nil)) pe_int (nomark _)))))
 (pss_one (ps_ret pe_bl))
 pss_nil)
 (pss_cons (ps_asg (pv 0) (Own.pg_lt (by rfl) (pgs_cons (pg_name (i := 2) sc_is_entry.nd rfl (Or.inl rfl)) (pgs_cons (pg_name (i := 3) sc_is_entry.nd rfl (Or.inl rfl)) pgs_nil))))
 (pss_one (ps_ret (pe_and (pe_call G_is_hook (hr.mono (by omega)) (by rfl) T.g_is_hook T.f_is_hook.kp T.b_is_hook .nil pass0 (pa_cons (pv 2) (pa_cons (pv 1) pa_nil))) (pe_one (pe_call G_is_wait (hr.mono (by omega)) (by rfl) T.g_is_wait T.f_is_wait.kp T.b_is_wait .nil pass0 (pa_cons (pv 3) pa_nil)))))))), ?_⟩
    rcases ha with ha | ha
    · refine ⟨_, rfl, .ref a, .list [.str h, .int i], rfl, .lst ha (.cons (.str h) (.cons (.int i) .nil)), fun H1 s1 => ⟨_, rfl, iteF ?_⟩⟩
      have ha1 := sqUp ha s1
      refine ⟨_, rfl, a, _, rfl, .inl ha1, rfl, _, rfl, iteF ?_⟩
      refine ⟨_, rfl, .inl ⟨a, _, rfl, ha1, rfl, _, _, rfl, _, _, rfl, rfl, ?_⟩⟩
      refine ⟨_, rfl, _, rfl, h, d, od, kvs, ks, rfl, s1 _ _ hd, hks, hl, hh, fun H2 s2 => ⟨_, rfl, iteT ?_⟩⟩
      exact ⟨_, rfl, i, rfl, h0, k _ (s1.trans s2)⟩
    · refine ⟨_, rfl, .ref a, .tuple [.str h, .int i], rfl, .tup ha (.cons (.str h) (.cons (.int i) .nil)), fun H1 s1 => ⟨_, rfl, iteF ?_⟩⟩
      have ha1 := stUp ha s1
      refine ⟨_, rfl, a, _, rfl, .inr ha1, rfl, _, rfl, iteF ?_⟩
      refine ⟨_, rfl, .inr ⟨a, _, rfl, ha1, rfl, _, _, rfl, _, _, rfl, rfl, ?_⟩⟩
      refine ⟨_, rfl, _, rfl, h, d, od, kvs, ks, rfl, s1 _ _ hd, hks, hl, hh, fun H2 s2 => ⟨_, rfl, iteT ?_⟩⟩
      exact ⟨_, rfl, i, rfl, h0, k _ (s1.trans s2)⟩
end
end K5
set_option Elab.async false
set_option linter.all false
set_option maxRecDepth 100000
set_option maxHeartbeats 4000000
namespace K5
open PySem L2
local macro_rules | `(tactic| walk_at "rd1") => `(tactic| first
  | refine ⟨_, _, rfl, rfl, ?_⟩
  | refine ⟨_, _, _, _, rfl, rfl, SqL.of (by assumption), rfl, ?_⟩
  | refine ⟨_, _, _, _, rfl, rfl, (by assumption), rfl, ?_⟩
  | refine .inl ⟨_, rfl, ?_⟩
  | refine ⟨_, rfl, ?_⟩
  | refine ⟨(by unfold CMul; omega), ?_⟩
  | refine ⟨(by unfold CPow; omega), ?_⟩
  | refine ⟨(by (try dsimp only); omega), ?_⟩
  | refine ⟨(by unfold CDiv; omega), ?_⟩
  | fail "rd1")
local macro_rules | `(tactic| walk_at "rd") => `(tactic| repeat' (walk_at "rd1"))
section
variable {P : Program} {w : World} {K : PySem.W.Frag} {mg : Str → Option Value} {base : Heap} {A : Ad}

theorem putF_len (f : Str) (v : V) : ∀ fs : List (Str × V), (putF f v fs).length ≤ fs.length + 1
  | [] => Nat.le_refl _
  | (g, x) :: r => by
    unfold putF
    by_cases e : g = f
    · rw [if_pos e]; exact Nat.le_succ _
    · rw [if_neg e]; exact Nat.succ_le_succ (putF_len f v r)
theorem noTup_ins (C dx : Addr) (fs : List (Str × V)) : NoTup (.ins C dx fs) := ⟨fun _ z => (nomatch z), fun _ _ z => (nomatch z)⟩
theorem frz_er {H : Hp} {d : Addr} {o : HO} : Same (er H d) (upd H d o) := fun b u e => by rw [upd_ne (er_some e).1]; exact (er_some e).2
theorem unfrz {H H' : Hp} {d : Addr} {u o : HO} (hd : H d = some u) (s : Same (upd H d o) H') : Same H (upd H' d u) := fun b v e => by
  by_cases hb : b = d
  · subst hb; rw [upd_same]; rw [hd] at e; exact e
  · rw [upd_ne hb]; exact s _ _ (by rw [upd_ne hb]; exact e)
theorem lt_of {H : Hp} {p : Addr} {xs : List V} {i : Int} {v : V} {Q : VK} (h : SqX K H p xs) (e : atI xs i = some v) (q : Q v H) : Own.rIxLT K (.ref p) (.int i) H Q :=
  h.elim (fun z => .inl ⟨p, xs, i, v, rfl, rfl, z, e, q⟩) (fun z => .inr ⟨p, xs, i, v, rfl, rfl, z, e, q⟩)
def spChkE (K : PySem.W.Frag) : Sp := fun vs H Q _ => ∃ (dd : Addr) (kvs : List (Key × V)) (ns : List Str) (hk : Str → Str) (wt : Str → Int), vs = [.ref dd] ∧ H dd = some (.dK kvs) ∧ PrX K H ns (fun n => .str (hk n)) (fun n => .int (wt n)) kvs ∧ ns.Nodup ∧ ns.length < 64 ∧
  (∀ n ∈ ns, Nm n ∧ (hk n = "clock" ∨ hk n ∈ ns) ∧ 0 ≤ wt n) ∧ ∀ H', Same H H' → Q .non H'
theorem ok_chke (T : Txt K mg A) : FnOk P w K mg base CX0 4 A.a_check_entries A.d_check_entries P_check_entries (spChkE K) := by
  have G_is_name : FnOk P w K mg base CX0 1 A.a_is_name A.d_is_name P_is_name spIsName := ok_isname T
  have G_is_entry : FnOk P w K mg base CX0 3 A.a_is_entry A.d_is_entry P_is_entry (spEntry K) := ok_entry T
  refine T.f_check_entries.ok sc_check_entries (fun vs H Q E h => ?_) (fun cdv A' outer s H vs Q E hr h => ?_)
  · obtain ⟨dd, kvs, ns, hk, wt, rfl, _⟩ := h
    rfl
  · obtain ⟨dd, kvs, ns, hk, wt, rfl, hd, hP, nd, hl, hB, k⟩ := h
    refine ⟨_, (pss_one (ps_lock (ps_for PassesOwn.never rfl (pi_keys (pv 0)) (pg_name (i := 1) sc_check_entries.nd rfl (Or.inl rfl))
 (pss_one (ps_if (PW.pt (pw_or (pt_not (pt_val (pe_call G_is_name (hr.mono (by omega)) (by rfl) T.g_is_name T.f_is_name.kp T.b_is_name .nil pass0 (pa_cons (pv 1) pa_nil)))) (pw_or1 (pt_not (pt_val (pe_call G_is_entry (hr.mono (by omega)) (by rfl) T.g_is_entry T.f_is_entry.kp T.b_is_entry .nil pass0 (pa_cons (pe_dget (hu_of hr) (pv 0) (pv 1) (fun _ _ => rfl)) (pa_cons (pv 0) pa_nil))))))))
 (pss_one ps_never)
 pss_nil))))), ?_⟩
    refine ⟨dd, _, hd, trivial, fun od => ?_⟩
    have hPf : PrX K (upd H dd (.frz od (.dK kvs))) ns (fun n => .str (hk n)) (fun n => .int (wt n)) kvs := hP.set hd (noSq_dK _)
    refine ⟨_, rfl, dd, od, rfl, .inl ⟨kvs, upd_same, for_it walk_keys (fun i σ' H' => ∃ x, σ' = [some (.ref dd), x] ∧ Same (upd H dd (.frz od (.dK kvs))) H') ⟨none, rfl, Same.refl _⟩ (fun i σ' H' _ ⟨_, _, s⟩ => s _ _ upd_same) ?_ ?_⟩⟩
    · rintro i x σ' H' H'' hi ⟨y, rfl, s1⟩ ⟨rfl, key, v, hkv, rfl⟩
      obtain ⟨hi1, a, rfl, rfl, hq⟩ := hPf.get hkv
      have hm := List.getElem_mem hi1
      obtain ⟨b1, b2, b3⟩ := hB _ hm
      refine ⟨_, rfl, ns[i], rfl, b1, fun H2 s2 => ⟨_, rfl, iteF ?_⟩⟩
      have hd2 : H2 dd = some (.frz od (.dK kvs)) := s2 _ _ (s1 _ _ upd_same)
      obtain ⟨a2, hv, hq2⟩ := hPf.val nd hm
      refine ⟨_, rfl, _, rfl, dd, .ref a2, rfl, .inl ⟨kvs, .inr ns[i], .inr ⟨od, hd2⟩, rfl, hv.symm⟩, _, rfl, a2, dd, od, kvs, ns, hk ns[i], wt ns[i], rfl, sxUp hq2 (s1.trans s2), hd2, hP.keys, hl, b2, b3, fun H3 s3 => ⟨_, rfl, iteF ?_⟩⟩
      exact ⟨_, rfl, (s1.trans s2).trans s3⟩
    · rintro σ' H' ⟨x, rfl, s1⟩
      exact ⟨s1 _ _ upd_same, k _ (unfrz hd s1)⟩
def spBInit (K : PySem.W.Frag) (C : Addr) : Sp := fun vs H Q _ => ∃ (p dx dd : Addr) (kvs : List (Key × V)) (ns : List Str) (hk : Str → Str) (wt : Str → Int) (rk : Str → Nat), vs = [.ref p, .ref dd] ∧ H p = some (.ins C dx []) ∧ H dd = some (.dK kvs) ∧
  PrX K H ns (fun n => .str (hk n)) (fun n => .int (wt n)) kvs ∧ ROk rk (rowsF ns hk) ∧ (∀ n ∈ ns, 0 ≤ wt n) ∧ ∀ (H' : Hp) (ys : List Str), (∀ H2, (∀ b u, H' b = some u → H b = none ∨ b = p → H2 b = some u) → BkAt C H2 p ys hk wt) → ys.Perm ns → PyProof.Rows.sortedS ys = true → Same (er H p) (er H' p) → Q .non H'
theorem fld2 (x y : V) : putF "waits" y (putF "hooks" x []) = ([("hooks", x), ("waits", y)] : List (Str × V)) := by
  show (if ("hooks" : Str) = "waits" then _ else _) = _
  rw [if_neg (by decide +kernel)]; rfl
theorem ok_binit (T : Txt K mg A) : FnOk P w K mg base CX0 5 A.a_Book___init__ A.d_Book___init__ P_Book___init__ (spBInit K A.a_Book) := by
  have G_check_entries : FnOk P w K mg base CX0 4 A.a_check_entries A.d_check_entries P_check_entries (spChkE K) := ok_chke T
  have G_check_rounds : FnOk P w K mg base CX0 2 A.a_check_rounds A.d_check_rounds P_check_rounds spRounds := ok_rounds T
  refine T.f_Book___init__.ok sc_Book___init__ (fun vs H Q E h => ?_) (fun cdv A' outer s H vs Q E hr h => ?_)
  · obtain ⟨p, dx, dd, kvs, ns, hk, wt, rk, rfl, _⟩ := h
    rfl
  · obtain ⟨p, dx, dd, kvs, ns, hk, wt, rk, rfl, hp, hd, hP, hO, hW, k⟩ := h
    have kN : ns.Nodup := by have := hO.nd; rwa [ksR_F] at this
    have hl : ns.length < 64 := by have := hO.len; rwa [← ksR_len, ksR_F] at this
    have hB : ∀ n ∈ ns, Nm n ∧ (hk n = "clock" ∨ hk n ∈ ns) ∧ 0 ≤ wt n := fun n m => ⟨(hO.nm n (by rw [ksR_F]; exact m)).1, (hO.acy n _ (mem_F m)).imp_right fun e => by have := e.1; rwa [ksR_F] at this, hW n m⟩
    refine ⟨_, (pss_cons (ps_expr (pe_call G_check_entries (hr.mono (by omega)) (by rfl) T.g_check_entries T.f_check_entries.kp T.b_check_entries .nil pass0 (pa_cons (pv 1) pa_nil)))
 (pss_cons (ps_expr (pe_call G_check_rounds (hr.mono (by omega)) (by rfl) T.g_check_rounds T.f_check_rounds.kp T.b_check_rounds .nil pass0 (pa_cons (pe_lock (pe_dc (own := [("name", 2)]) (g := gName 2) (by rfl) sc_Book___init__.nd (pi_keys (pv 1)) (blkOk_by (N := N_Book___init__) (sc := defScope s_Book___init__) (by decide +kernel)) (fun _ _ _ _ _ => pg_name (i := 2) sc_Book___init__.nd rfl (Or.inl rfl)) (fun _ _ _ _ _ => pts_nil) (fun _ _ _ _ _ => (pv 2)) (fun _ _ _ _ _ => (pe_ix (Own.ixLtOf (K := K) rfl) (pe_dget (hu_of hr) (pv 1) (pv 2) (fun _ _ => rfl)) pe_int (fun _ _ => rfl))))) pa_nil)))
 (pss_cons (ps_fld (pv 0) (pe_dc (own := [("name", 2)]) (g := gName 2) (by rfl) sc_Book___init__.nd (pi_list (pe_callB (call_sortedD rfl) (by rfl) T.sorted (by decide +kernel) (pa_cons (pv 1) pa_nil))) (blkOk_by (N := N_Book___init__) (sc := defScope s_Book___init__) (by decide +kernel)) (fun _ _ _ _ _ => pg_name (i := 2) sc_Book___init__.nd rfl (Or.inl rfl)) (fun _ _ _ _ _ => pts_nil) (fun _ _ _ _ _ => (pv 2)) (fun _ _ _ _ _ => (pe_ix (Own.ixLtOf (K := K) rfl) (pe_dget (hu_of hr) (pv 1) (pv 2) (fun _ _ => rfl)) pe_int (fun _ _ => rfl)))) rfl)
 (pss_one (ps_fld (pv 0) (pe_lock (pe_dc (own := [("name", 2)]) (g := gName 2) (by rfl) sc_Book___init__.nd (pi_keys (pe_fld (pv 0) rfl)) (blkOk_by (N := N_Book___init__) (sc := defScope s_Book___init__) (by decide +kernel)) (fun _ _ _ _ _ => pg_name (i := 2) sc_Book___init__.nd rfl (Or.inl rfl)) (fun _ _ _ _ _ => pts_nil) (fun _ _ _ _ _ => (pv 2)) (fun _ _ _ _ _ => (pe_ix (Own.ixLtOf (K := K) rfl) (pe_dget (hu_of hr) (pv 1) (pv 2) (fun _ _ => rfl)) pe_int (fun _ _ => rfl))))) rfl))))), ?_⟩
    have npd : dd ≠ p := ne_of hd hp (fun z => nomatch z)
    refine ⟨_, rfl, dd, kvs, ns, hk, wt, rfl, hd, hP, kN, hl, hB, fun H1 s1 => ?_⟩
    have hd1 := s1 _ _ hd
    have hP1 := hP.up s1
    -- the hooks for the rounds
    refine ⟨dd, _, hd1, trivial, fun od => ?_⟩
    have hPf : PrX K (upd H1 dd (.frz od (.dK kvs))) ns (fun n => .str (hk n)) (fun n => .int (wt n)) kvs := hP1.set hd1 (noSq_dK _)
    refine ⟨_, rfl, dd, od, rfl, .inl ⟨kvs, upd_same, fun D hD => fillD walk_keys (fun i H' => Same (upd H1 dd (.frz od (.dK kvs))) H' ∧ H' D = some (.dK (kvF (ns.take i) fun n => .str (hk n)))) ⟨Same.new hD, upd_same⟩ (fun i H' _ h => h.1 _ _ upd_same) ?_ (fun H2 h2 => ?_)⟩⟩
    · rintro i x H' H'' hi ⟨s2, hD2⟩ ⟨rfl, key, v, hkv, rfl⟩
      obtain ⟨hi1, a, rfl, rfl, hq⟩ := hPf.get hkv
      have hm := List.getElem_mem hi1
      obtain ⟨a2, hv, hq2⟩ := hPf.val kN hm
      refine ⟨rfl, _, rfl, _, rfl, _, rfl, dd, .ref a2, rfl, .inl ⟨kvs, .inr ns[i], .inr ⟨od, s2 _ _ upd_same⟩, rfl, hv.symm⟩, lt_of (sxUp hq2 s2) rfl ⟨_, .inr ns[i], rfl, hD2, ?_, ?_, ?_⟩⟩
      · rw [kvF_len, List.length_take]; exact Nat.lt_of_le_of_lt (show min i _ ≤ 64 by omega) (by decide)
      · exact fun c u e => by rw [upd_ne (ne_of_none e hD)]; exact s2 _ _ e
      · rw [put_new _ _ _ (by
          rw [kvF_keys]
          intro m
          obtain ⟨z, hz, ez⟩ := List.mem_map.mp m
          exact not_in_take kN hi1 (by rw [← Sum.inr.inj ez]; exact hz)), upd_same, List.take_succ, List.getElem?_eq_getElem hi1]
        exact congrArg (fun z => some (HO.dK z)) (kvF_snoc (ns.take i) ns[i] fun n => .str (hk n)).symm
    obtain ⟨s2, hD2⟩ := h2
    rw [hP.len, List.take_length] at hD2
    have nDd : D ≠ dd := fun e => by rw [e, upd_same] at hD; cases hD
    refine ⟨s2 _ _ upd_same, ?_⟩
    have S2 : Same H1 (upd H2 dd (.dK kvs)) := unfrz hd1 s2
    have hD3 : upd H2 dd (.dK kvs) D = some (.dK (kvR (rowsF ns hk))) := by rw [upd_ne nDd, kvR_F]; exact hD2
    generalize upd H2 dd (.dK kvs) = H3 at S2 hD3 ⊢
    have S3 := s1.trans S2
    clear s2 hPf hD2 hD hP1 hd1
    refine ⟨D, rk, rowsF ns hk, rfl, hD3, hO, fun H4 s4 => ?_⟩
    have S4 := S3.trans s4
    clear hD3 S3 S2 s4 s1
    have hd4 := S4 _ _ hd
    have hP4 := hP.up S4
    -- self.hooks
    refine ⟨_, rfl, dd, kvs, ns, rfl, .inl hd4, hP.keys, hl, fun ys q hperm hsort hq => ?_⟩
    have yN : ys.Nodup := hperm.nodup_iff.mpr kN
    have yl : ys.length < 64 := by rw [hperm.length_eq]; exact hl
    refine ⟨q, rfl, ⟨_, SqL.of upd_same⟩, fun D hD => fillD walk_list (fun i H' => Same (upd H4 q (.lst (ys.map V.str))) H' ∧ H' D = some (.dK (kvF (ys.take i) fun n => .str (hk n)))) ⟨Same.new hD, upd_same⟩ (fun i H' _ h => SqL.of (h.1 _ _ upd_same)) ?_ (fun H5 h5 => ?_)⟩
    · rintro i x H' H'' hi1 ⟨s5, hD5⟩ ⟨rfl, hx⟩
      obtain ⟨hi1, rfl⟩ := str_at hx
      have hm : ys[i] ∈ ns := hperm.mem_iff.mp (List.getElem_mem hi1)
      have S5 : Same H4 H'' := (Same.new hq).trans s5
      obtain ⟨a2, hv, hq2⟩ := hP4.val kN hm
      refine ⟨rfl, _, rfl, _, rfl, _, rfl, dd, .ref a2, rfl, .inl ⟨kvs, .inr ys[i], .inl (S5 _ _ hd4), rfl, hv.symm⟩, lt_of (sxUp hq2 S5) rfl ⟨_, .inr ys[i], rfl, hD5, ?_, ?_, ?_⟩⟩
      · rw [kvF_len, List.length_take]; exact Nat.lt_of_le_of_lt (show min i _ ≤ 64 by omega) (by decide)
      · exact fun c u e => by rw [upd_ne (ne_of_none e hD)]; exact s5 _ _ e
      · rw [put_new _ _ _ (by
          rw [kvF_keys]
          intro m
          obtain ⟨z, hz, ez⟩ := List.mem_map.mp m
          exact not_in_take yN hi1 (by rw [← Sum.inr.inj ez]; exact hz)), upd_same, List.take_succ, List.getElem?_eq_getElem hi1]
        exact congrArg (fun z => some (HO.dK z)) (kvF_snoc (ys.take i) ys[i] fun n => .str (hk n)).symm
    obtain ⟨s5, hD5⟩ := h5
    rw [List.length_map, List.take_length] at hD5
    have S5 : Same H4 H5 := (Same.new hq).trans s5
    have hp5 := S5 _ _ (S4 _ _ hp)
    have nDp : D ≠ p := fun e => by rw [e, hp5] at hD5; cases hD5
    have fD : H D = none := S4.free ((Same.new hq).free hD)
    have nDd : D ≠ dd := fun e => by rw [e, Same.new hq _ _ hd4] at hD; cases hD
    refine ⟨_, rfl, p, A.a_Book, dx, _, rfl, hp5, T.cl_B, T.nBH, by decide, ?_⟩
    have hd5 := S5 _ _ hd4
    have hP5 := hP4.up S5
    have E5 : Same (er H p) (er (upd H5 p (.ins A.a_Book dx (putF "hooks" (.ref D) []))) p) := by rw [er_upd]; exact er_mono (S4.trans S5)
    have hD6 : upd H5 p (.ins A.a_Book dx (putF "hooks" (.ref D) [])) D = some (.dK (kvF ys fun n => .str (hk n))) := by rw [upd_ne nDp]; exact hD5
    have hd6 : upd H5 p (.ins A.a_Book dx (putF "hooks" (.ref D) [])) dd = some (.dK kvs) := by rw [upd_ne npd]; exact hd5
    have hP6 : PrX K (upd H5 p (.ins A.a_Book dx (putF "hooks" (.ref D) []))) ns (fun n => .str (hk n)) (fun n => .int (wt n)) kvs := hP5.set hp5 (noSq_ins _ _ _)
    have hp6 : upd H5 p (.ins A.a_Book dx (putF "hooks" (.ref D) [])) p = some (.ins A.a_Book dx (putF "hooks" (.ref D) [])) := upd_same
    generalize upd H5 p (.ins A.a_Book dx (putF "hooks" (.ref D) [])) = H6 at E5 hD6 hd6 hP6 hp6 ⊢
    clear hd5 hP5 hp5 S5 s5 hD5 hD hq hP4 hd4
    -- self.waits
    refine ⟨D, _, hD6, trivial, fun od => ?_⟩
    have npD : p ≠ D := fun e => nDp e.symm
    have hp7 : upd H6 D (.frz od (.dK (kvF ys fun n => .str (hk n)))) p = some (.ins A.a_Book dx (putF "hooks" (.ref D) [])) := by rw [upd_ne npD]; exact hp6
    have hd7 : upd H6 D (.frz od (.dK (kvF ys fun n => .str (hk n)))) dd = some (.dK kvs) := by rw [upd_ne nDd.symm]; exact hd6
    have hP7 : PrX K (upd H6 D (.frz od (.dK (kvF ys fun n => .str (hk n))))) ns (fun n => .str (hk n)) (fun n => .int (wt n)) kvs := hP6.set hD6 (noSq_dK _)
    refine ⟨_, rfl, p, A.a_Book, dx, _, _, rfl, hp7, T.cl_B, T.nBH, rfl, D, od, rfl, .inl ⟨_, upd_same, fun D2 hD2 => fillD walk_keys (fun i H' => Same (upd H6 D (.frz od (.dK (kvF ys fun n => .str (hk n))))) H' ∧ H' D2 = some (.dK (kvF (ys.take i) fun n => .int (wt n)))) ⟨Same.new hD2, upd_same⟩ (fun i H' _ h => h.1 _ _ upd_same) ?_ (fun H8 h8 => ?_)⟩⟩
    · rintro i x H' H'' hi ⟨s8, hD8⟩ ⟨rfl, key, v, hkv, rfl⟩
      obtain ⟨hi1, rfl, rfl⟩ := kvF_at hkv
      have hm : ys[i] ∈ ns := hperm.mem_iff.mp (List.getElem_mem hi1)
      obtain ⟨a2, hv, hq2⟩ := hP7.val kN hm
      refine ⟨rfl, _, rfl, _, rfl, _, rfl, dd, .ref a2, rfl, .inl ⟨kvs, .inr ys[i], .inl (s8 _ _ hd7), rfl, hv.symm⟩, lt_of (sxUp hq2 s8) rfl ⟨_, .inr ys[i], rfl, hD8, ?_, ?_, ?_⟩⟩
      · rw [kvF_len, List.length_take]; exact Nat.lt_of_le_of_lt (show min i _ ≤ 64 by omega) (by decide)
      · exact fun c u e => by rw [upd_ne (ne_of_none e hD2)]; exact s8 _ _ e
      · rw [put_new _ _ _ (by
          rw [kvF_keys]
          intro m
          obtain ⟨z, hz, ez⟩ := List.mem_map.mp m
          exact not_in_take yN hi1 (by rw [← Sum.inr.inj ez]; exact hz)), upd_same, List.take_succ, List.getElem?_eq_getElem hi1]
        exact congrArg (fun z => some (HO.dK z)) (kvF_snoc (ys.take i) ys[i] fun n => .int (wt n)).symm
    obtain ⟨s8, hD8⟩ := h8
    rw [kvF_len, List.take_length] at hD8
    have nDD : D2 ≠ D := fun e => by rw [e, upd_same] at hD2; cases hD2
    refine ⟨s8 _ _ upd_same, ?_⟩
    have S8 : Same H6 (upd H8 D (.dK (kvF ys fun n => .str (hk n)))) := unfrz hD6 s8
    have hD9 : upd H8 D (.dK (kvF ys fun n => .str (hk n))) D2 = some (.dK (kvF ys fun n => .int (wt n))) := by rw [upd_ne nDD]; exact hD8
    generalize upd H8 D (.dK (kvF ys fun n => .str (hk n))) = H9 at S8 hD9 ⊢
    have hp9 := S8 _ _ hp6
    have nD2p : D2 ≠ p := fun e => by rw [e, hp9] at hD9; cases hD9
    refine ⟨_, rfl, p, A.a_Book, dx, _, rfl, hp9, T.cl_B, T.nBW, Nat.lt_of_le_of_lt (putF_len _ _ _) (by decide), ?_⟩
    have fD2 : H D2 = none := by
      cases e : H D2 with
      | none => rfl
      | some u =>
        have z := (er_same _ _) _ _ (E5 _ _ (er_of nD2p e))
        rw [upd_ne nDD, z] at hD2; cases hD2
    refine k _ ys (fun H2 hh => ⟨dx, D, D2, hh _ _ (by rw [upd_same, fld2]) (.inr rfl), hh _ _ (by rw [upd_ne nDp]; exact S8 _ _ hD6) (.inl fD), hh _ _ (by rw [upd_ne nD2p]; exact hD9) (.inl fD2)⟩) hperm hsort ?_
    rw [er_upd]
    exact E5.trans (er_mono S8)
end
end K5
set_option Elab.async false
set_option linter.all false
set_option maxRecDepth 100000
set_option maxHeartbeats 4000000
namespace K5
open PySem L2
local macro_rules | `(tactic| walk_at "rd1") => `(tactic| first
  | refine ⟨_, _, rfl, rfl, ?_⟩
  | refine ⟨_, _, _, _, rfl, rfl, SqL.of (by assumption), rfl, ?_⟩
  | refine ⟨_, _, _, _, rfl, rfl, (by assumption), rfl, ?_⟩
  | refine .inl ⟨_, rfl, ?_⟩
  | refine ⟨_, rfl, ?_⟩
  | refine ⟨(by unfold CMul; omega), ?_⟩
  | refine ⟨(by unfold CPow; omega), ?_⟩
  | refine ⟨(by (try dsimp only); omega), ?_⟩
  | refine ⟨(by unfold CDiv; omega), ?_⟩
  | fail "rd1")
local macro_rules | `(tactic| walk_at "rd") => `(tactic| repeat' (walk_at "rd1"))
section
variable {P : Program} {w : World} {K : PySem.W.Frag} {mg : Str → Option Value} {base : Heap} {A : Ad}

/-! ### asked of a book -/
def spBHang (K : PySem.W.Frag) (C : Addr) (CH : Addr) : Sp := fun vs H Q _ => ∃ (p : Addr) (ys : List Str) (hk : Str → Str) (wt : Str → Int) (rk : Str → Nat), vs = [.ref p] ∧ BkAt C H p ys hk wt ∧ ROk rk (rowsF ys hk) ∧ PyProof.Rows.sortedS ys = true ∧
  ∀ q H' d, Same H H' → HgAt CH H' q d (rowsF ys hk) → Q (.ref q) H'
theorem asc_same {ys : List Str} {hk : Str → Str} {rs : Rows} (sy : PyProof.Rows.sortedS ys = true) (a : Asc (rowsF ys hk) rs) : rs = rowsF ys hk := by
  have p : (ksR rs).Perm ys := by have := a.keys; rwa [ksR_F] at this
  have e : ksR rs = ys := p.eq_of_pairwise (fun _ _ _ _ a b => sle_anti a b) (sle_sorted a.asc) (sle_sorted sy)
  have key : ∀ l : Rows, (∀ k h, (k, h) ∈ l → (k, h) ∈ rowsF ys hk) → l = rowsF (ksR l) hk := fun l => by
    induction l with
    | nil => intro _; rfl
    | cons r l ih =>
      intro hm
      have e := ih fun k h m => hm k h (List.mem_cons_of_mem _ m)
      have m := of_mem_F (hm r.1 r.2 (List.mem_cons_self ..))
      show r :: l = (r.1, hk r.1) :: rowsF (ksR l) hk
      rw [← e, ← m.2]
  have := key rs a.mem
  rwa [e] at this
theorem ok_bhang (T : Txt K mg A) : FnOk P w K mg base CX0 6 A.a_Book_hanging A.d_Book_hanging P_Book_hanging (spBHang K A.a_Book A.a_Hanging) := by
  have G_Hanging___init__ : FnOk P w K mg base CX0 4 A.a_Hanging___init__ A.d_Hanging___init__ P_Hanging___init__ (spHInit A.a_Hanging) := ok_hinit T
  refine T.f_Book_hanging.ok sc_Book_hanging (fun vs H Q E h => ?_) (fun cdv A' outer s H vs Q E hr h => ?_)
  · obtain ⟨p, ys, hk, wt, rk, rfl, _⟩ := h
    rfl
  · obtain ⟨p, ys, hk, wt, rk, rfl, B, hO, hs, k⟩ := h
    obtain ⟨dx, qh, qw, hp, hh, hw⟩ := B.ex
    refine ⟨_, (pss_one (ps_ret (pe_make T.mkH G_Hanging___init__ (hr.mono (by omega)) (by rfl) T.g_Hanging T.b_Hanging___init__ .nil pass0 (pa_cons (pe_fld (pv 0) rfl) pa_nil)))), ?_⟩
    refine ⟨_, rfl, p, A.a_Book, dx, _, _, rfl, hp, T.cl_B, T.nBH, rfl, fun q dq nq ndq ndp => ?_⟩
    have sM : Same H (upd (upd H dq (.own q)) q (.ins A.a_Hanging dq [])) := fun b u e => by rw [upd_ne (ne_of_none e nq), upd_ne (ne_of_none e ndq)]; exact e
    refine ⟨q, dq, qh, rk, rowsF ys hk, rfl, upd_same, by rw [kvR_F]; exact sM _ _ hh, hO, fun H5 d rs hg nd asc sS => ⟨rfl, ?_⟩⟩
    rw [asc_same hs asc] at hg
    exact k q H5 d (fun b u e => (er_same _ _) _ _ (sS _ _ (er_of (ne_of_none e nq) (sM _ _ e)))) hg
end
end K5
set_option Elab.async false
set_option linter.all false
set_option maxRecDepth 100000
set_option maxHeartbeats 4000000
namespace K5
open PySem L2
local macro_rules | `(tactic| walk_at "rd1") => `(tactic| first
  | refine ⟨_, _, rfl, rfl, ?_⟩
  | refine ⟨_, _, _, _, rfl, rfl, SqL.of (by assumption), rfl, ?_⟩
  | refine ⟨_, _, _, _, rfl, rfl, (by assumption), rfl, ?_⟩
  | refine .inl ⟨_, rfl, ?_⟩
  | refine ⟨_, rfl, ?_⟩
  | refine ⟨(by unfold CMul; omega), ?_⟩
  | refine ⟨(by unfold CPow; omega), ?_⟩
  | refine ⟨(by (try dsimp only); omega), ?_⟩
  | refine ⟨(by unfold CDiv; omega), ?_⟩
  | fail "rd1")
local macro_rules | `(tactic| walk_at "rd") => `(tactic| repeat' (walk_at "rd1"))
section
variable {P : Program} {w : World} {K : PySem.W.Frag} {mg : Str → Option Value} {base : Heap} {A : Ad}

theorem noTup_lst (xs : List V) : NoTup (.lst xs) := ⟨fun _ z => (nomatch z), fun _ _ z => (nomatch z)⟩
theorem merge_all : ∀ (kvs acc : List (Key × V)), ((acc ++ kvs).map (·.1)).Nodup → mergeK acc kvs = acc ++ kvs
  | [], acc, _ => (List.append_nil acc).symm
  | (k, v) :: r, acc, h => by
    have e : mergeK acc ((k, v) :: r) = mergeK (putK acc k v) r := rfl
    have e2 : (acc ++ (k, v) :: r) = (acc ++ [(k, v)]) ++ r := by rw [List.append_assoc]; rfl
    rw [e2] at h
    have hn : k ∉ acc.map (·.1) := fun m => by
      rw [List.map_append, List.map_append, List.append_assoc] at h
      exact (List.nodup_append.mp h).2.2 _ m _ (List.mem_append_left _ (List.mem_singleton.mpr rfl)) rfl
    rw [e, put_new acc k v hn, merge_all r _ h, e2]
theorem paired_snoc {α β : Type} {R : α → β → Prop} : ∀ {xs : List α} {ys : List β} {x : α} {y : β}, Paired R xs ys → R x y → Paired R (xs ++ [x]) (ys ++ [y])
  | _, _, _, _, .nil, h => .cons h .nil
  | _, _, _, _, .cons a b, h => .cons a (paired_snoc b h)
theorem paired_imp {α β : Type} {R S : α → β → Prop} (f : ∀ a b, R a b → S a b) : ∀ {xs : List α} {ys : List β}, Paired R xs ys → Paired S xs ys
  | _, _, .nil => .nil
  | _, _, .cons a b => .cons (f _ _ a) (paired_imp f b)

/-! ### wishes by moments -/
theorem Sta.at_ {H : Hp} {st c t : Addr} {b : Int} {u o : HO} (h : Sta H st c b) (ht : er H st t = some u) (hu : ∀ xs, u ≠ .lst xs) : Sta (upd H t o) st c b := by
  obtain ⟨cs, i, l, m, n, h1, h2, h3⟩ := h.ex
  have ns := (er_some ht).1
  have nc : c ≠ t := fun e => by rw [e, ht] at h2; exact hu _ (Option.some.inj h2)
  exact ⟨cs, i, l, m, n, by rw [upd_ne ns.symm]; exact h1, by rw [er_updp ns, upd_ne nc]; exact h2, h3⟩
theorem Gs.unlock {H H' : Hp} {st c t : Addr} {b b0 : Int} {u o : HO} (S0 : Sta H st c b0) (ht : er H st t = some u) (hu : ∀ xs, u ≠ .lst xs) (g : Gs st c (upd H t o) H' b) : Gs st c H (upd H' t u) b := by
  have ns := (er_some ht).1
  obtain ⟨cs0, i0, l0, m0, n0, _, c0, _⟩ := S0.ex
  have nc : c ≠ t := fun e => by rw [e, ht] at c0; exact hu _ (Option.some.inj c0)
  obtain ⟨cs, i, l, m, n, h1, h2, h3⟩ := g.sta.ex
  refine ⟨⟨cs, i, l, m, n, by rw [upd_ne ns.symm]; exact h1, by rw [er_updp ns, upd_ne nc]; exact h2, h3⟩, fun x v e => ?_⟩
  rw [er_updp ns]
  by_cases hx : x = t
  · subst hx; rw [upd_same]; rw [ht] at e; exact e
  · rw [upd_ne hx]
    exact g.same _ _ (by rw [er_updp ns, upd_ne hx]; exact e)
def spWaiting (K : PySem.W.Frag) : Sp := fun vs H Q _ => ∃ (st c t : Addr) (ns : List Str) (hk : Str → Str) (b : Int), vs = [.ref st, .ref t] ∧ Sta H st c b ∧ b + 64 ≤ 1000000 ∧ er H st t = some (.dK (kvR (rowsF ns hk))) ∧ ns.Nodup ∧ ns.length < 64 ∧
  ∀ (p : Addr) (wt : Str → Int) (kvs : List (Key × V)) (H' : Hp), Gs st c H H' (b + 64) → er H' st p = some (.dK kvs) → Pr2 K (er H' st) ns (fun n => .str (hk n)) (fun n => .int (wt n)) kvs → (∀ n, 0 ≤ wt n) → er H st p = none → Q (.ref p) H'
theorem ok_waiting (T : Txt K mg A) : FnOk P w K mg base CX0 2 A.a__law_waiting A.d__law_waiting P__law_waiting (spWaiting K) := by
  have G__law_take : FnOk P w K mg base CX0 1 A.a__law_take A.d__law_take P__law_take spTake := ok_take T
  refine T.f__law_waiting.ok sc__law_waiting (fun vs H Q E h => ?_) (fun cdv A' outer s H vs Q E hr h => ?_)
  · obtain ⟨st, c, t, ns, hk, b, rfl, _⟩ := h
    rfl
  · obtain ⟨st, c, t, ns, hk, b, rfl, S, hb, ht, nd, hl, k⟩ := h
    refine ⟨_, (pss_one (ps_ret (pe_callTy (call_dictP rfl) (by rfl) T.dict (by decide +kernel) (pa_cons (pe_lock (pe_lc (own := [("_law_name", 2)]) (g := gName 2) (by rfl) sc__law_waiting.nd (pi_keys (pv 1)) (blkOk_by (N := N__law_waiting) (sc := defScope s__law_waiting) (by decide +kernel)) (fun _ _ _ _ _ => pg_name (i := 2) sc__law_waiting.nd rfl (Or.inl rfl)) (fun _ _ _ _ _ => pts_nil) (fun _ _ _ _ _ => (pe_tup (pa_cons (pv 2) (pa_cons (pe_tup (pa_cons (pe_dget (hu_of hr) (pv 1) (pv 2) (fun _ _ => rfl)) (pa_cons (pe_call G__law_take (hr.mono (by omega)) (by rfl) T.g__law_take T.f__law_take.kp T.b__law_take .nil pass0 (pa_cons (pv 0) (pa_cons pe_int pa_nil))) pa_nil))) pa_nil)))))) pa_nil)))), ?_⟩
    rw [kvR_F] at ht
    have hu : ∀ xs, (HO.dK (kvF ns fun n => .str (hk n))) ≠ .lst xs := fun _ z => nomatch z
    have ht0 := (er_some ht).2
    have nts := (er_some ht).1
    refine ⟨t, _, ht0, trivial, fun od => ?_⟩
    have S1 : Sta (upd H t (.frz od (.dK (kvF ns fun n => .str (hk n))))) st c b := S.at_ ht hu
    have htf : er (upd H t (.frz od (.dK (kvF ns fun n => .str (hk n))))) st t = some (.frz od (.dK (kvF ns fun n => .str (hk n)))) := er_of nts upd_same
    have G0 : ∀ {H' : Hp} {b' : Int}, Gs st c (upd H t (.frz od (.dK (kvF ns fun n => .str (hk n))))) H' b' → Gs st c H (upd H' t (.dK (kvF ns fun n => .str (hk n)))) b' := fun g => g.unlock S ht hu
    refine ⟨_, rfl, t, od, rfl, .inl ⟨_, upd_same, fun D hD => ?_⟩⟩
    generalize hHf : upd H t (.frz od (.dK (kvF ns fun n => .str (hk n)))) = Hf at S1 htf G0 hD ⊢
    have mD := S1.ne hD
    have eD := er_none (st := st) hD
    refine lc_it walk_keys (fun i H' => ∃ (ps : List Addr) (kvs : List (Key × V)) (wt : Str → Int), er H' st D = some (.lst (ps.map V.ref)) ∧ Paired (fun p kv => SqT K (er H' st) p [kV kv.1, kv.2]) ps kvs ∧ Pr2 K (er H' st) (ns.take i) (fun n => .str (hk n)) (fun n => .int (wt n)) kvs ∧ (∀ n, 0 ≤ wt n) ∧ Gs st c Hf H' (b + (i : Int)))
      ⟨[], [], fun _ => 0, er_of mD upd_same, .nil, Pr2.nil, fun _ => Int.le_refl _, by simpa using (Gs.refl S1).new hD⟩ (fun i H' _ z => ?_) ?_ (fun H1 z => ?_)
    · obtain ⟨_, _, _, _, _, _, _, g⟩ := z
      exact (er_same _ _) _ _ (g.same _ _ htf)
    · rintro i x H' H'' hi ⟨ps, kvs, wt, hD1, hP, hR, hw, g⟩ ⟨rfl, key, v, hkv, rfl⟩
      obtain ⟨hi1, rfl, rfl⟩ := kvF_at hkv
      have hm := List.getElem_mem hi1
      refine ⟨rfl, _, rfl, _, rfl, _, rfl, t, .str (hk ns[i]), rfl, .inl ⟨_, .inr ns[i], .inr ⟨od, (er_same _ _) _ _ (g.same _ _ htf)⟩, rfl, (kvF_val (f := fun n => .str (hk n)) nd hm).symm⟩, ?_⟩
      refine ⟨_, rfl, st, c, 8, _, rfl, g.sta, by omega, by omega, by omega, fun r o hr0 hr1 S2 => ?_⟩
      have g2 := g.trans (Gs.of_upd S2)
      rw [← er_upd H'' st o] at hD1 hP hR
      generalize upd H'' st o = H2 at g2 hD1 hP hR ⊢
      refine ⟨by show 2 ≤ sizeLine; decide, fun t1 nt1 => ?_⟩
      have m1 := g2.sta.ne nt1
      have g3 := g2.new nt1 (o := .tup [.str (hk ns[i]), .int r])
      have s3 : Same (er H2 st) (er (upd H2 t1 (.tup [.str (hk ns[i]), .int r])) st) := er_mono (Same.new nt1)
      have h1 : er (upd H2 t1 (.tup [.str (hk ns[i]), .int r])) st t1 = some (.tup [.str (hk ns[i]), .int r]) := er_of m1 upd_same
      have hD3 := s3 _ _ hD1
      have hP3 := paired_imp (fun p (kv : Key × V) (z : SqT K _ p [kV kv.1, kv.2]) => stUp z s3) hP
      have hR3 := hR.up s3
      generalize upd H2 t1 (.tup [.str (hk ns[i]), .int r]) = H3 at g3 h1 hD3 hP3 hR3 ⊢
      refine ⟨by show 2 ≤ sizeLine; decide, fun t2 nt2 => ?_⟩
      have m2 := g3.sta.ne nt2
      have g4 := g3.new nt2 (o := .tup [kV (.inr ns[i]), .ref t1])
      have s4 : Same (er H3 st) (er (upd H3 t2 (.tup [kV (.inr ns[i]), .ref t1])) st) := er_mono (Same.new nt2)
      have h2 : er (upd H3 t2 (.tup [kV (.inr ns[i]), .ref t1])) st t2 = some (.tup [kV (.inr ns[i]), .ref t1]) := er_of m2 upd_same
      have h1 := s4 _ _ h1
      have hD4 := s4 _ _ hD3
      have hP4 := paired_imp (fun p (kv : Key × V) (z : SqT K _ p [kV kv.1, kv.2]) => stUp z s4) hP3
      have hR4 := hR3.up s4
      generalize upd H3 t2 (.tup [kV (.inr ns[i]), .ref t1]) = H4 at g4 h1 h2 hD4 hP4 hR4 ⊢
      have hpl : ps.length = i := by
        rw [hP.length, hR.len, List.length_take]; omega
      refine ⟨_, (er_same _ _) _ _ hD4, ?_, ?_⟩
      · rw [List.length_map, hpl]
        exact Nat.lt_of_lt_of_le (show i < 65 by omega) (by decide)
      have nL := noTup_lst (ps.map V.ref)
      have e1 : ns.take (i + 1) = ns.take i ++ [ns[i]] := by rw [List.take_succ, List.getElem?_eq_getElem hi1]; rfl
      have setT : ∀ {a : Addr} {xs : List V}, SqT K (er H4 st) a xs → SqT K (er (upd H4 D (.lst (ps.map V.ref ++ [.ref t2]))) st) a xs := fun z => by
        rw [er_updp mD]; exact tupSet hD4 nL z
      refine ⟨ps ++ [t2], kvs ++ [(.inr ns[i], .ref t1)], fun n => if n = ns[i] then r else wt n, ?_, ?_, ?_, ?_, ?_⟩
      · rw [er_updp mD, upd_same, List.map_append]; rfl
      · exact paired_snoc (paired_imp (fun p (kv : Key × V) z => setT z) hP4) (setT (SqT.of h2))
      · rw [e1]
        refine Pr2.snoc ((by rw [er_updp mD]; exact hR4.set hD4 nL : Pr2 K _ (ns.take i) _ (fun n => .int (wt n)) kvs).congr fun n m => ⟨rfl, ?_⟩) ?_
        · show V.int (wt n) = V.int (if n = ns[i] then r else wt n)
          rw [if_neg (fun e : n = ns[i] => not_in_take nd hi1 (by rw [← e]; exact m))]
        · show SqT K _ t1 [.str (hk ns[i]), .int (if ns[i] = ns[i] then r else wt ns[i])]
          rw [if_pos rfl]; exact setT (SqT.of h1)
      · intro n
        show 0 ≤ if n = ns[i] then r else wt n
        split
        · exact hr0
        · exact hw n
      · exact (g4.set S1.hc eD mD).le (by omega) (by omega)
    · obtain ⟨ps, kvs, wt, hD1, hP, hR, hw, g⟩ := z
      rw [kvF_len, List.take_length] at hR
      rw [kvF_len] at g
      have htE := (er_same _ _) _ _ (g.same _ _ htf)
      refine ⟨htE, ?_⟩
      have g1 := G0 g
      have s1 : Same (er (er H1 st) t) (er (upd H1 t (.dK (kvF ns fun n => .str (hk n)))) st) := fun x u e => by
        obtain ⟨n1, e1⟩ := er_some e
        rw [er_updp nts, upd_ne n1]; exact e1
      have nF : NoTup (.frz od (.dK (kvF ns fun n => .str (hk n)))) := ⟨fun _ z => (nomatch z), fun _ _ z => (nomatch z)⟩
      have ht1 := g.same _ _ htf
      have hP1 := paired_imp (fun p (kv : Key × V) (z : SqT K _ p [kV kv.1, kv.2]) => stUp (tupEr ht1 nF z) s1) hP
      have hR1 := (hR.er ht1 nF).up s1
      have nDt : D ≠ t := fun e => by rw [e, ht1] at hD1; cases hD1
      have hD2 := s1 _ _ (er_of nDt hD1)
      generalize upd H1 t (.dK (kvF ns fun n => .str (hk n))) = H2 at g1 hP1 hR1 hD2 ⊢
      refine ⟨D, ps, kvs, rfl, SqL.of ((er_same _ _) _ _ hD2), paired_imp (fun p (kv : Key × V) (z : SqT K _ p [kV kv.1, kv.2]) => stUp z (er_same _ _)) hP1, fun pd npd => ?_⟩
      rw [merge_all kvs [] (by rw [List.nil_append, hR1.keys]; exact inr_nd nd), List.nil_append]
      have mp := g1.sta.ne npd
      refine k pd wt kvs _ ((g1.new npd).le (by omega) hb) (er_of mp upd_same) (hR1.up (er_mono (Same.new npd))) hw ?_
      exact g1.same.free (er_none npd)
end
end K5
set_option Elab.async false
set_option linter.all false
set_option maxRecDepth 100000
set_option maxHeartbeats 4000000
namespace K5
open PySem L2
local macro_rules | `(tactic| walk_at "rd1") => `(tactic| first
  | refine ⟨_, _, rfl, rfl, ?_⟩
  | refine ⟨_, _, _, _, rfl, rfl, SqL.of (by assumption), rfl, ?_⟩
  | refine ⟨_, _, _, _, rfl, rfl, (by assumption), rfl, ?_⟩
  | refine .inl ⟨_, rfl, ?_⟩
  | refine ⟨_, rfl, ?_⟩
  | refine ⟨(by unfold CMul; omega), ?_⟩
  | refine ⟨(by unfold CPow; omega), ?_⟩
  | refine ⟨(by (try dsimp only); omega), ?_⟩
  | refine ⟨(by unfold CDiv; omega), ?_⟩
  | fail "rd1")
local macro_rules | `(tactic| walk_at "rd") => `(tactic| repeat' (walk_at "rd1"))
section
variable {P : Program} {w : World} {K : PySem.W.Frag} {mg : Str → Option Value} {base : Heap} {A : Ad}

/-! ### hangings compared -/
def eqR (r1 r2 : Rows) : Bool := r1.length == r2.length && Own.eqKv (kvR r1) (kvR r2)
theorem kvR_flat {rs : Rows} : ∀ p ∈ kvR rs, flatV p.2 = true := fun p hp => by
  obtain ⟨r, _, rfl⟩ := List.mem_map.mp hp
  rfl
theorem kvR_flatV {rs : Rows} : ∀ k u, valV (kvR rs) k = some u → flatV u = true := fun k u h => by
  induction rs with
  | nil => cases h
  | cons r rs ih =>
    have h' : valV ((.inr r.1, .str r.2) :: kvR rs) k = some u := h
    by_cases e : (Sum.inr r.1 : Key) = k
    · rw [valV_pos e] at h'; cases h'; rfl
    · rw [valV_neg e] at h'; exact ih h'

theorem eqR_refl {r : Rows} (nd : (ksR r).Nodup) : eqR r r = true := by
  unfold eqR Own.eqKv
  rw [Bool.and_eq_true]
  refine ⟨beq_self_eq_true _, List.all_eq_true.mpr fun p hp => ?_⟩
  obtain ⟨x, hx, rfl⟩ := List.mem_map.mp hp
  show (match valV (kvR r) (.inr x.1) with | some u => eqV (.str x.2) u | none => false) = true
  rw [valR nd (show (x.1, x.2) ∈ r from hx)]
  show (x.2 == x.2) = true
  exact beq_self_eq_true _
theorem eqR_same {r1 r2 : Rows} (hk : ksR r1 = ksR r2) (nd : (ksR r2).Nodup) : eqR r1 r2 = decide (r1 = r2) := by
  rw [Bool.eq_iff_iff, decide_eq_true_iff]
  constructor
  · intro h
    unfold eqR Own.eqKv at h
    rw [Bool.and_eq_true] at h
    have hl : r1.length = r2.length := by have := congrArg List.length hk; rwa [ksR_len, ksR_len] at this
    refine List.ext_getElem hl fun i h1 h2 => ?_
    have e1 : r1[i].1 = r2[i].1 := by
      have a1 : (ksR r1)[i]? = some r1[i].1 := by unfold ksR; rw [List.getElem?_map, List.getElem?_eq_getElem h1]; rfl
      have a2 : (ksR r2)[i]? = some r2[i].1 := by unfold ksR; rw [List.getElem?_map, List.getElem?_eq_getElem h2]; rfl
      rw [hk, a2] at a1
      exact (Option.some.inj a1).symm
    have q := List.all_eq_true.mp h.2 (.inr r1[i].1, .str r1[i].2) (List.mem_map.mpr ⟨r1[i], List.getElem_mem h1, rfl⟩)
    have q : (match valV (kvR r2) (.inr r1[i].1) with | some u => eqV (.str r1[i].2) u | none => false) = true := q
    rw [e1, valR nd (show (r2[i].1, r2[i].2) ∈ r2 from List.getElem_mem h2)] at q
    have e2 : r1[i].2 = r2[i].2 := eq_of_beq (show (r1[i].2 == r2[i].2) = true from q)
    exact Prod.ext e1 e2
  · intro e
    subst e
    exact eqR_refl nd
def spHEq2 (C : Addr) : Sp := fun vs H Q _ => ∃ (p q p2 q2 : Addr) (rs rs2 : Rows), vs = [.ref p, .ref p2] ∧ HgAt C H p q rs ∧ HgAt C H p2 q2 rs2 ∧ Q (.bl (eqR rs rs2)) H
theorem ok_heq2 (T : Txt K mg A) : FnOk P w K mg base CX0 1 A.a_Hanging___eq__ A.d_Hanging___eq__ P_Hanging___eq__ (spHEq2 A.a_Hanging) := by
  refine T.f_Hanging___eq__.ok sc_Hanging___eq__ (fun vs H Q E h => ?_) (fun cdv A' outer s H vs Q E hr h => ?_)
  · obtain ⟨p, q, p2, q2, rs, rs2, rfl, _⟩ := h
    rfl
  · obtain ⟨p, q, p2, q2, rs, rs2, rfl, ⟨⟨dx, hp⟩, hq⟩, ⟨⟨dx2, hp2⟩, hq2⟩, k⟩ := h
    refine ⟨_, (pss_one (ps_ret (pe_and (pe_callB call_isi (by rfl) T.isinstance (by decide +kernel) (pa_cons (pv 1) (pa_cons (pe_glob (v := .ref A.a_Hanging) (by rfl) T.g_Hanging rfl) pa_nil))) (pe_one (pe_cmpR (Own.op_eqDF hr.units) (pe_fld (pv 0) rfl) (pe_fld (pv 1) rfl) (nomark _)))))), ?_⟩
    refine ⟨_, rfl, _, _, .ref A.a_Hanging, _, true, rfl, .own _, .base (.ins hp2 T.cl T.aC T.aG T.aT T.mO), T.kHH, _, rfl, iteT ?_⟩
    refine ⟨_, rfl, p, A.a_Hanging, dx, _, _, rfl, hp, T.cl, T.nH, rfl, _, rfl, p2, A.a_Hanging, dx2, _, _, rfl, hp2, T.cl, T.nH, rfl, ?_⟩
    refine ⟨q, q2, kvR rs, kvR rs2, rfl, rfl, hq, hq2, kvR_flat, kvR_flatV, ?_⟩
    rw [kvR_len, kvR_len]
    exact k
theorem eqF_refl {ys : List Str} {f : Str → V} (nd : ys.Nodup) (fl : ∀ n, eqV (f n) (f n) = true) : ((kvF ys f).length == (kvF ys f).length && Own.eqKv (kvF ys f) (kvF ys f)) = true := by
  unfold Own.eqKv
  rw [Bool.and_eq_true]
  refine ⟨beq_self_eq_true _, List.all_eq_true.mpr fun p hp => ?_⟩
  obtain ⟨x, hx, rfl⟩ := List.mem_map.mp hp
  show (match valV (kvF ys f) (.inr x) with | some u => eqV (f x) u | none => false) = true
  rw [kvF_val nd hx]
  exact fl x
theorem kvF_flat {ys : List Str} {f : Str → V} (fl : ∀ n, flatV (f n) = true) : ∀ p ∈ kvF ys f, flatV p.2 = true := fun p hp => by
  obtain ⟨x, _, rfl⟩ := List.mem_map.mp hp
  exact fl x
theorem kvF_flatV {ys : List Str} {f : Str → V} (fl : ∀ n, flatV (f n) = true) : ∀ k u, valV (kvF ys f) k = some u → flatV u = true := fun k u h => by
  induction ys with
  | nil => cases h
  | cons y ys ih =>
    have h' : valV ((.inr y, f y) :: kvF ys f) k = some u := h
    by_cases e : (Sum.inr y : Key) = k
    · rw [valV_pos e] at h'; cases h'; exact fl y
    · rw [valV_neg e] at h'; exact ih h'
/-- two books compared -/
def eqFB (ys zs : List Str) (f g : Str → V) : Bool := (kvF ys f).length == (kvF zs g).length && Own.eqKv (kvF ys f) (kvF zs g)
def eqBk (ys zs : List Str) (hk hk2 : Str → Str) (wt wt2 : Str → Int) : Bool := eqFB ys zs (fun n => .str (hk n)) (fun n => .str (hk2 n)) && eqFB ys zs (fun n => .int (wt n)) (fun n => .int (wt2 n))
theorem eqBk_refl {ys : List Str} {hk : Str → Str} {wt : Str → Int} (nd : ys.Nodup) : eqBk ys ys hk hk wt wt = true := by
  unfold eqBk eqFB
  rw [eqF_refl (f := fun n => V.str (hk n)) nd fun n => (beq_self_eq_true (hk n) : (hk n == hk n) = true), eqF_refl (f := fun n => V.int (wt n)) nd fun n => (beq_self_eq_true (wt n) : (wt n == wt n) = true)]
  rfl
theorem eqBk_len {ys zs : List Str} {hk hk2 : Str → Str} {wt wt2 : Str → Int} (h : ys.length ≠ zs.length) : eqBk ys zs hk hk2 wt wt2 = false := by
  unfold eqBk eqFB
  rw [kvF_len, kvF_len, beq_eq_false_iff_ne.mpr h]
  rfl
theorem eqBk_wait {ys : List Str} {hk hk2 : Str → Str} {wt wt2 : Str → Int} {n : Str} (nd : ys.Nodup) (m : n ∈ ys) (h : wt n ≠ wt2 n) : eqBk ys ys hk hk2 wt wt2 = false := by
  have e : eqFB ys ys (fun n => .int (wt n)) (fun n => .int (wt2 n)) = false := by
    rw [Bool.eq_false_iff]
    intro z
    unfold eqFB Own.eqKv at z
    rw [Bool.and_eq_true] at z
    have q := List.all_eq_true.mp z.2 (.inr n, .int (wt n)) (List.mem_map.mpr ⟨n, m, rfl⟩)
    have q : (match valV (kvF ys fun n => .int (wt2 n)) (.inr n) with | some u => eqV (.int (wt n)) u | none => false) = true := q
    rw [kvF_val nd m] at q
    exact h (eq_of_beq (show (wt n == wt2 n) = true from q))
  unfold eqBk
  rw [e, Bool.and_false]
def spBEq (C : Addr) : Sp := fun vs H Q _ => ∃ (p : Addr) (ys : List Str) (hk : Str → Str) (wt : Str → Int) (y : V), vs = [.ref p, y] ∧ BkAt C H p ys hk wt ∧
  ((∃ p2 zs hk2 wt2, y = .ref p2 ∧ BkAt C H p2 zs hk2 wt2 ∧ Q (.bl (eqBk ys zs hk hk2 wt wt2)) H) ∨ (y = .non ∧ Q (.bl false) H) ∨ ∃ d kvs, y = .ref d ∧ H d = some (.dK kvs) ∧ Q (.bl false) H)
theorem ok_beq (T : Txt K mg A) : FnOk P w K mg base CX0 1 A.a_Book___eq__ A.d_Book___eq__ P_Book___eq__ (spBEq A.a_Book) := by
  refine T.f_Book___eq__.ok sc_Book___eq__ (fun vs H Q E h => ?_) (fun cdv A' outer s H vs Q E hr h => ?_)
  · obtain ⟨p, ys, hk, wt, y, rfl, _⟩ := h
    rfl
  · obtain ⟨p, ys, hk, wt, y, rfl, B, h⟩ := h
    obtain ⟨dx, qh, qw, hp, hh, hw⟩ := B.ex
    refine ⟨_, (pss_one (ps_ret (pe_and (pe_callB call_isi (by rfl) T.isinstance (by decide +kernel) (pa_cons (pv 1) (pa_cons (pe_glob (v := .ref A.a_Book) (by rfl) T.g_Book rfl) pa_nil))) (pe_and (pe_cmpR (Own.op_eqDF hr.units) (pe_fld (pv 0) rfl) (pe_fld (pv 1) rfl) (nomark _)) (pe_one (pe_cmpR (Own.op_eqDF hr.units) (pe_fld (pv 0) rfl) (pe_fld (pv 1) rfl) (nomark _))))))), ?_⟩
    rcases h with ⟨p2, zs, hk2, wt2, rfl, B2, k⟩ | ⟨rfl, k⟩ | ⟨d, kvs, rfl, hd, k⟩
    · obtain ⟨dx2, qh2, qw2, hp2, hh2, hw2⟩ := B2.ex
      refine ⟨_, rfl, _, _, .ref A.a_Book, _, true, rfl, .own _, .base (.ins hp2 T.cl_B T.aCB T.aG T.aT T.mOB), T.kBB, _, rfl, iteT ?_⟩
      refine ⟨_, rfl, p, A.a_Book, dx, _, _, rfl, hp, T.cl_B, T.nBH, rfl, _, rfl, p2, A.a_Book, dx2, _, _, rfl, hp2, T.cl_B, T.nBH, rfl, ?_⟩
      refine ⟨qh, qh2, _, _, rfl, rfl, hh, hh2, kvF_flat fun _ => rfl, kvF_flatV fun _ => rfl, ?_⟩
      refine ⟨_, rfl, ite2 (fun c => ?_) (fun c => ?_)⟩
      · refine ⟨_, rfl, p, A.a_Book, dx, _, _, rfl, hp, T.cl_B, T.nBW, rfl, _, rfl, p2, A.a_Book, dx2, _, _, rfl, hp2, T.cl_B, T.nBW, rfl, ?_⟩
        refine ⟨qw, qw2, _, _, rfl, rfl, hw, hw2, kvF_flat fun _ => rfl, kvF_flatV fun _ => rfl, ?_⟩
        have e : eqBk ys zs hk hk2 wt wt2 = eqFB ys zs (fun n => .int (wt n)) (fun n => .int (wt2 n)) := by unfold eqBk; rw [show eqFB ys zs (fun n => .str (hk n)) (fun n => .str (hk2 n)) = true from c, Bool.true_and]
        rw [e] at k
        exact k
      · have e0 : eqFB ys zs (fun n => .str (hk n)) (fun n => .str (hk2 n)) = false := eq_false_of_ne_true c
        have e : eqBk ys zs hk hk2 wt wt2 = false := by unfold eqBk; rw [e0, Bool.false_and]
        rw [e] at k
        exact k
    · exact ⟨_, rfl, _, _, .type "NoneType", _, false, rfl, .own _, .base .non, T.kBN, _, rfl, iteF k⟩
    · exact ⟨_, rfl, _, _, .type "dict", _, false, rfl, .own _, .base (.dK hd), T.kBD, _, rfl, iteF k⟩
/-- what the sum of a hook is -/
def spSumA : Sp := fun vs H Q _ => ∃ (h : Str) (d : Addr) (kvs : List (Key × V)) (i : Int), vs = [.str h, .ref d] ∧ Rd H d (.dK kvs) ∧ ((h = "clock" ∧ i = 0) ∨ (h ≠ "clock" ∧ valV kvs (.inr h) = some (.int i))) ∧ Q (.int i) H
theorem ok_suma (T : Txt K mg A) : FnOk P w K mg base CX0 1 A.a_sum_ahead A.d_sum_ahead P_sum_ahead spSumA := by
  refine T.f_sum_ahead.ok sc_sum_ahead (fun vs H Q E h => ?_) (fun cdv A' outer s H vs Q E hr h => ?_)
  · obtain ⟨h, d, kvs, i, rfl, _⟩ := h
    rfl
  · obtain ⟨h, d, kvs, i, rfl, hd, hc, k⟩ := h
    refine ⟨_, (pss_one (ps_ret (pe_ifExp (pt_cmpR op_eq (pv 0) (pe_glob (v := .str "clock") (by rfl) T.g_CLOCK.choose_spec ⟨_, rfl⟩) (nomark _)) pe_int (pe_dget (hu_of hr) (pv 1) (pv 0) (fun _ _ => rfl))))), ?_⟩
    refine ⟨_, rfl, rfl, _, rfl, ite2 (fun c => ?_) (fun c => ?_)⟩
    · have ec : h = "clock" := V.str.inj (of_decide_eq_true c)
      rcases hc with ⟨_, rfl⟩ | ⟨n, _⟩
      · exact k
      · exact absurd ec n
    · rcases hc with ⟨e, _⟩ | ⟨_, hv⟩
      · exact absurd (decide_eq_true (by rw [e])) c
      · exact ⟨_, rfl, _, rfl, d, _, rfl, .inl ⟨kvs, .inr h, hd, rfl, hv.symm⟩, k⟩
/-! ### no wait below 0 -/
def spChkW : Sp := fun vs H Q _ => ∃ (q : Addr) (ys : List Str) (wt : Str → Int), vs = [.ref q] ∧ H q = some (.dK (kvW ys wt)) ∧ ys.Nodup ∧ ys.length < 64 ∧ PyProof.Rows.sortedS ys = true ∧ (∀ n ∈ ys, 0 ≤ wt n) ∧ ∀ H', Same H H' → Q .non H'
theorem ok_chkw (T : Txt K mg A) : FnOk P w K mg base CX0 1 A.a_check_waits A.d_check_waits P_check_waits spChkW := by
  refine T.f_check_waits.ok sc_check_waits (fun vs H Q E h => ?_) (fun cdv A' outer s H vs Q E hr h => ?_)
  · obtain ⟨q, ys, wt, rfl, _⟩ := h
    rfl
  · obtain ⟨q, ys, wt, rfl, hq, nd, hl, hs, h0, k⟩ := h
    refine ⟨_, (pss_one (ps_for PassesOwn.never rfl (pi_list (pe_callB (call_sortedD rfl) (by rfl) T.sorted (by decide +kernel) (pa_cons (pv 0) pa_nil))) (pg_name (i := 1) sc_check_waits.nd rfl (Or.inl rfl))
 (pss_one (ps_if (pt_cmpR op_lt (pe_dget (hu_of hr) (pv 0) (pv 1) (fun _ _ => rfl)) pe_int (nomark _))
 (pss_one ps_never)
 pss_nil)))), ?_⟩
    refine ⟨_, rfl, q, _, ys, rfl, .inl hq, kvF_keys _ _, hl, fun zs l hperm hsort nl => ?_⟩
    obtain rfl : zs = ys := asc_eq hperm hsort (sle_sorted hs)
    refine ⟨l, rfl, ⟨_, SqL.of upd_same⟩, for_it walk_list (fun i σ' H' => ∃ x, σ' = [some (.ref q), x] ∧ Same (upd H l (.lst (zs.map V.str))) H') ⟨_, rfl, Same.refl _⟩ (fun i σ' H' _ ⟨_, _, z⟩ => SqL.of (z _ _ upd_same)) ?_ ?_⟩
    · rintro i x σ' H' H'' hi ⟨x0, rfl, s1⟩ ⟨rfl, hx⟩
      obtain ⟨hi1, rfl⟩ := str_at hx
      have S1 : Same H H'' := (Same.new nl).trans s1
      have hm := List.getElem_mem hi1
      refine ⟨_, rfl, _, rfl, q, .int (wt zs[i]), rfl, .inl ⟨_, .inr zs[i], .inl (S1 _ _ hq), rfl, (kvF_val (f := fun n => V.int (wt n)) nd hm).symm⟩, _, _, rfl, rfl, _, rfl, ite2 (fun c => ?_) (fun c => ?_)⟩
      · exact absurd (of_decide_eq_true c) (Int.not_lt.mpr (h0 _ hm))
      · exact ⟨_, rfl, s1⟩
    · rintro σ' H' ⟨x, rfl, s1⟩
      exact k H' ((Same.new nl).trans s1)
theorem noTup_frz {o : Obj} {kvs : List (Key × V)} : NoTup (.frz o (.dK kvs)) := ⟨fun _ z => (nomatch z), fun _ _ z => (nomatch z)⟩
/-- the dict of the waits is another one than that of the hooks, where a dish is there -/
theorem BkAt.waits {H : Hp} {p qh qw C dx : Addr} {ys : List Str} {hk : Str → Str} {wt : Str → Int} (nd : ys.Nodup) (_ : H p = some (.ins C dx [("hooks", .ref qh), ("waits", .ref qw)])) (hh : H qh = some (.dK (kvF ys fun n => .str (hk n)))) (hw : H qw = some (.dK (kvF ys fun n => .int (wt n)))) :
    ∀ o n, n ∈ ys → upd H qh o qw = some (.dK (kvF ys fun n => .int (wt n))) := fun o n m => by
  rw [upd_ne fun e => ?_]
  · exact hw
  · rw [e, hh] at hw
    have e1 := HO.dK.inj (Option.some.inj hw)
    have v1 := kvF_val (f := fun n => V.str (hk n)) nd m
    rw [e1, kvF_val (f := fun n => V.int (wt n)) nd m] at v1
    cases v1
/-- one more pair in the dict at R -/
theorem Pr2.fill {H : Hp} {ys : List Str} {f g : Str → V} {kvs : List (Key × V)} {i : Nat} {a R : Addr} (h : Pr2 K H (ys.take i) f g kvs) (nd : ys.Nodup) (hi : i < ys.length) (na : H a = none) (hR : H R = some (.dK kvs)) :
    Pr2 K (upd (upd H a (.tup [f ys[i], g ys[i]])) R (.dK (putK kvs (.inr ys[i]) (.ref a)))) (ys.take (i + 1)) f g (putK kvs (.inr ys[i]) (.ref a)) := by
  rw [put_new _ _ _ (by
    rw [h.keys]
    intro m
    obtain ⟨z, hz, ez⟩ := List.mem_map.mp m
    exact not_in_take nd hi (by rw [← Sum.inr.inj ez]; exact hz)), List.take_succ, List.getElem?_eq_getElem hi]
  have hR5 : upd H a (.tup [f ys[i], g ys[i]]) R = some (.dK kvs) := Same.new na _ _ hR
  exact Pr2.snoc ((h.up (Same.new na)).set hR5 (noTup_dK _)) (tupSet hR5 (noTup_dK _) (SqT.of upd_same))
def spBRows (K : PySem.W.Frag) (C : Addr) : Sp := fun vs H Q _ => ∃ (p : Addr) (ys : List Str) (hk : Str → Str) (wt : Str → Int), vs = [.ref p] ∧ BkAt C H p ys hk wt ∧ ys.Nodup ∧ ys.length < 64 ∧
  ∀ r kvs H', Same H H' → H r = none → H' r = some (.dK kvs) → Pr2 K H' ys (fun n => .str (hk n)) (fun n => .int (wt n)) kvs → Q (.ref r) H'
theorem ok_brows (T : Txt K mg A) : FnOk P w K mg base CX0 1 A.a_Book_rows A.d_Book_rows P_Book_rows (spBRows K A.a_Book) := by
  refine T.f_Book_rows.ok sc_Book_rows (fun vs H Q E h => ?_) (fun cdv A' outer s H vs Q E hr h => ?_)
  · obtain ⟨p, ys, hk, wt, rfl, _⟩ := h
    rfl
  · obtain ⟨p, ys, hk, wt, rfl, B, nd, hl, k⟩ := h
    obtain ⟨dx, qh, qw, hp, hh, hw⟩ := B.ex
    refine ⟨_, (pss_one (ps_ret (pe_lock (pe_dc (own := [("name", 1)]) (g := gName 1) (by rfl) sc_Book_rows.nd (pi_keys (pe_fld (pv 0) rfl)) (blkOk_by (N := N_Book_rows) (sc := defScope s_Book_rows) (by decide +kernel)) (fun _ _ _ _ _ => pg_name (i := 1) sc_Book_rows.nd rfl (Or.inl rfl)) (fun _ _ _ _ _ => pts_nil) (fun _ _ _ _ _ => (pv 1)) (fun _ _ _ _ _ => (pe_tup (pa_cons (pe_dget (hu_of hr) (Own.fldOf (K := K) rfl (pv 0) rfl) (pv 1) (fun _ _ => rfl)) (pa_cons (pe_dget (hu_of hr) (Own.fldOf (K := K) rfl (pv 0) rfl) (pv 1) (fun _ _ => rfl)) pa_nil)))))))), ?_⟩
    have nd' := nd
    have hwF := BkAt.waits nd hp hh hw
    refine ⟨qh, _, hh, trivial, fun od => ?_⟩
    have nph : p ≠ qh := fun e => by rw [e, hh] at hp; cases hp
    have hpF : upd H qh (.frz od (.dK (kvF ys fun n => .str (hk n)))) p = some (.ins A.a_Book dx [("hooks", .ref qh), ("waits", .ref qw)]) := by rw [upd_ne nph]; exact hp
    have hhF : upd H qh (.frz od (.dK (kvF ys fun n => .str (hk n)))) qh = some (.frz od (.dK (kvF ys fun n => .str (hk n)))) := upd_same
    have hwF : ∀ n ∈ ys, upd H qh (.frz od (.dK (kvF ys fun n => .str (hk n)))) qw = some (.dK (kvF ys fun n => .int (wt n))) := fun n m => hwF _ n m
    have uF : ∀ H2, Same (upd H qh (.frz od (.dK (kvF ys fun n => .str (hk n))))) H2 → Same H (upd H2 qh (.dK (kvF ys fun n => .str (hk n)))) := fun H2 s => unfrz hh s
    have eF : ∀ b, b ≠ qh → upd H qh (.frz od (.dK (kvF ys fun n => .str (hk n)))) b = none → H b = none := fun b n e => by rw [← e, upd_ne n]
    generalize upd H qh (.frz od (.dK (kvF ys fun n => .str (hk n)))) = F at hpF hhF hwF uF eF ⊢
    refine ⟨_, rfl, p, A.a_Book, dx, _, _, rfl, hpF, T.cl_B, T.nBH, rfl, qh, od, rfl, .inl ⟨_, hhF, fun R hR => fillD walk_keys (fun i H' => Same F H' ∧ ∃ kvs, H' R = some (.dK kvs) ∧ Pr2 K H' (ys.take i) (fun n => .str (hk n)) (fun n => .int (wt n)) kvs) ⟨Same.new hR, [], upd_same, Pr2.nil⟩ (fun i H' _ z => z.1 _ _ hhF) ?_ (fun H4 z => ?_)⟩⟩
    · rintro i x H' H'' hi ⟨s4, kvs, hR4, hP4⟩ ⟨rfl, key, v, hkv, rfl⟩
      obtain ⟨hi1, rfl, rfl⟩ := kvF_at hkv
      have hm : ys[i] ∈ ys := List.getElem_mem hi1
      refine ⟨rfl, _, rfl, _, rfl, p, A.a_Book, dx, _, _, rfl, s4 _ _ hpF, T.cl_B, T.nBH, rfl, _, rfl, qh, _, rfl, .inl ⟨_, .inr ys[i], .inr ⟨od, s4 _ _ hhF⟩, rfl, (kvF_val (f := fun n => V.str (hk n)) nd hm).symm⟩, ?_⟩
      refine ⟨_, rfl, p, A.a_Book, dx, _, _, rfl, s4 _ _ hpF, T.cl_B, T.nBW, rfl, _, rfl, qw, _, rfl, .inl ⟨_, .inr ys[i], .inl (s4 _ _ (hwF _ hm)), rfl, (kvF_val (f := fun n => V.int (wt n)) nd hm).symm⟩, ?_⟩
      refine ⟨by show 2 ≤ sizeLine; decide, fun a na => ⟨_, .inr ys[i], rfl, Same.new na _ _ hR4, ?_, ?_, _, upd_same, ?_⟩⟩
      · rw [hP4.len, List.length_take]; exact Nat.lt_of_le_of_lt (show min i _ ≤ 64 by omega) (by decide)
      · exact fun c u e => by rw [upd_ne (ne_of_none e hR)]; exact Same.new na _ _ (s4 _ _ e)
      · exact hP4.fill nd hi1 na hR4
    obtain ⟨s4, kvs, hR4, hP4⟩ := z
    rw [kvF_len, List.take_length] at hP4
    have nRq : R ≠ qh := fun e => by rw [e, hhF] at hR; cases hR
    refine ⟨s4 _ _ hhF, ?_⟩
    exact k R kvs _ (uF _ s4) (eF _ nRq hR) (by rw [upd_ne nRq]; exact hR4) (hP4.set (s4 _ _ hhF) noTup_frz)
end
end K5
set_option Elab.async false
set_option linter.all false
set_option maxRecDepth 100000
set_option maxHeartbeats 4000000
namespace K5
open PySem L2
local macro_rules | `(tactic| walk_at "rd1") => `(tactic| first
  | refine ⟨_, _, rfl, rfl, ?_⟩
  | refine ⟨_, _, _, _, rfl, rfl, SqL.of (by assumption), rfl, ?_⟩
  | refine ⟨_, _, _, _, rfl, rfl, (by assumption), rfl, ?_⟩
  | refine .inl ⟨_, rfl, ?_⟩
  | refine ⟨_, rfl, ?_⟩
  | refine ⟨(by unfold CMul; omega), ?_⟩
  | refine ⟨(by unfold CPow; omega), ?_⟩
  | refine ⟨(by (try dsimp only); omega), ?_⟩
  | refine ⟨(by unfold CDiv; omega), ?_⟩
  | fail "rd1")
local macro_rules | `(tactic| walk_at "rd") => `(tactic| repeat' (walk_at "rd1"))
section
variable {P : Program} {w : World} {K : PySem.W.Frag} {mg : Str → Option Value} {base : Heap} {A : Ad}

theorem putF_take {ys : List Str} {f : Str → V} {i : Nat} (nd : ys.Nodup) (hi : i < ys.length) : putK (kvF (ys.take i) f) (.inr ys[i]) (f ys[i]) = kvF (ys.take (i + 1)) f := by
  rw [put_new _ _ _ (by
    rw [kvF_keys]
    intro m
    obtain ⟨z, hz, ez⟩ := List.mem_map.mp m
    exact not_in_take nd hi (by rw [← Sum.inr.inj ez]; exact hz)), List.take_succ, List.getElem?_eq_getElem hi]
  exact (kvF_snoc (ys.take i) ys[i] f).symm
/-- the sum of a hook; the waits by sums -/
def clk (S : Str → Int) (h : Str) : Int := if h = "clock" then 0 else S h
def wOf (hk : Str → Str) (S : Str → Int) (n : Str) : Int := S n - clk S (hk n)
/-- Book(..) of rows in the order of the names -/
theorem made {p dx R : Addr} {H4 H5 : Hp} {C : Addr} {ys zs : List Str} {hk : Str → Str} {wt : Str → Int} (np : H4 p = none) (ndx : H4 dx = none)
    (s : Same (er (upd (upd H4 dx (.own p)) p (.ins C dx [])) p) (er H5 p)) : Same H4 H5 := fun b u e => (er_same _ _) _ _ (s _ _ (er_of (ne_of_none e np) (by rw [upd_ne (ne_of_none e np), upd_ne (ne_of_none e ndx)]; exact e)))
def spOf (K : PySem.W.Frag) (C CH : Addr) : Sp := fun vs H Q E => ∃ (g q s : Addr) (ys : List Str) (hk : Str → Str) (S : Str → Int) (kss : List (Key × V)) (rk : Str → Nat), vs = [.ref g, .ref s] ∧ HgAt CH H g q (rowsF ys hk) ∧ H s = some (.dK kss) ∧ (∀ n ∈ ys, valV kss (.inr n) = some (.int (S n))) ∧
  ROk rk (rowsF ys hk) ∧ PyProof.Rows.sortedS ys = true ∧ (∀ n ∈ ys, 0 ≤ wOf hk S n) ∧ ∀ p H', Same H H' → H p = none → BkAt C H' p ys hk (wOf hk S) → Q (.ref p) H'
theorem ok_of (T : Txt K mg A) : FnOk P w K mg base CX0 7 A.a_Book_of A.d_Book_of P_Book_of (spOf K A.a_Book A.a_Hanging) := by
  have G_Hanging_rows : FnOk P w K mg base CX0 1 A.a_Hanging_rows A.d_Hanging_rows P_Hanging_rows (spHRows A.a_Hanging) := ok_hrows T
  have G_sum_ahead : FnOk P w K mg base CX0 1 A.a_sum_ahead A.d_sum_ahead P_sum_ahead spSumA := ok_suma T
  have G_check_waits : FnOk P w K mg base CX0 1 A.a_check_waits A.d_check_waits P_check_waits spChkW := ok_chkw T
  have G_Book___init__ : FnOk P w K mg base CX0 5 A.a_Book___init__ A.d_Book___init__ P_Book___init__ (spBInit K A.a_Book) := ok_binit T
  refine T.f_Book_of.ok sc_Book_of (fun vs H Q E h => ?_) (fun cdv A' outer s0 H vs Q E hr h => ?_)
  · obtain ⟨g, q, s, ys, hk, S, kss, rk, rfl, _⟩ := h
    rfl
  · obtain ⟨g, q, s, ys, hk, S, kss, rk, rfl, hg, hs, hS, hO, hsy, hw0, k⟩ := h
    have nd : ys.Nodup := by have := hO.nd; rwa [ksR_F] at this
    have hl : ys.length < 64 := by have := hO.len; rwa [← ksR_len, ksR_F] at this
    obtain ⟨dx0, hgp⟩ := id hg.ex
    refine ⟨_, (pss_cons (ps_set (i := 2) sc_Book_of.nd rfl (Or.inr rfl) (pe_meth0 (pv 0) T.cl T.m_rows G_Hanging_rows (hr.mono (by omega)) T.b_Hanging_rows .nil pass0))
 (pss_cons (ps_set (i := 3) sc_Book_of.nd rfl (Or.inr rfl) (pe_lock (pe_dc (own := [("name", 4)]) (g := gName 4) (by rfl) sc_Book_of.nd (pi_keys (pv 2)) (blkOk_by (N := N_Book_of) (sc := defScope s_Book_of) (by decide +kernel)) (fun _ _ _ _ _ => pg_name (i := 4) sc_Book_of.nd rfl (Or.inl rfl)) (fun _ _ _ _ _ => pts_nil) (fun _ _ _ _ _ => (pv 4)) (fun _ _ _ _ _ => (pe_op op_sub (pe_dget (hu_of hr) (pv 1) (pv 4) (fun _ _ => rfl)) (pe_call G_sum_ahead (hr.mono (by omega)) (by rfl) T.g_sum_ahead T.f_sum_ahead.kp T.b_sum_ahead .nil pass0 (pa_cons (pe_dget (hu_of hr) (pv 2) (pv 4) (fun _ _ => rfl)) (pa_cons (pv 1) pa_nil))))))))
 (pss_cons (ps_expr (pe_call G_check_waits (hr.mono (by omega)) (by rfl) T.g_check_waits T.f_check_waits.kp T.b_check_waits .nil pass0 (pa_cons (pv 3) pa_nil)))
 (pss_one (ps_ret (pe_make T.mkB G_Book___init__ (hr.mono (by omega)) (by rfl) T.g_Book T.b_Book___init__ .nil pass0 (pa_cons (pe_lock (pe_dc (own := [("name", 4)]) (g := gName 4) (by rfl) sc_Book_of.nd (pi_keys (pv 2)) (blkOk_by (N := N_Book_of) (sc := defScope s_Book_of) (by decide +kernel)) (fun _ _ _ _ _ => pg_name (i := 4) sc_Book_of.nd rfl (Or.inl rfl)) (fun _ _ _ _ _ => pts_nil) (fun _ _ _ _ _ => (pv 4)) (fun _ _ _ _ _ => (pe_tup (pa_cons (pe_dget (hu_of hr) (pv 2) (pv 4) (fun _ _ => rfl)) (pa_cons (pe_dget (hu_of hr) (pv 3) (pv 4) (fun _ _ => rfl)) pa_nil)))))) pa_nil))))))), ?_⟩
    refine ⟨_, rfl, g, dx0, _, rfl, hgp, rfl, g, q, _, rfl, hg, fun l nl => ?_⟩
    have s1 : Same H (upd H l (.dK (kvR (rowsF ys hk)))) := Same.new nl
    have hl1 : upd H l (.dK (kvR (rowsF ys hk))) l = some (.dK (kvF ys fun n => .str (hk n))) := by rw [kvR_F]; exact upd_same
    have nsl : s ≠ l := ne_of_none hs nl
    generalize upd H l (.dK (kvR (rowsF ys hk))) = H1 at s1 hl1 ⊢
    -- the waits
    refine ⟨l, _, hl1, trivial, fun od => ?_⟩
    have hlF : upd H1 l (.frz od (.dK (kvF ys fun n => .str (hk n)))) l = some (.frz od (.dK (kvF ys fun n => .str (hk n)))) := upd_same
    have hsF : upd H1 l (.frz od (.dK (kvF ys fun n => .str (hk n)))) s = some (.dK kss) := by rw [upd_ne nsl]; exact s1 _ _ hs
    have uF : ∀ H2, Same (upd H1 l (.frz od (.dK (kvF ys fun n => .str (hk n))))) H2 → Same H1 (upd H2 l (.dK (kvF ys fun n => .str (hk n)))) := fun H2 s => unfrz hl1 s
    generalize upd H1 l (.frz od (.dK (kvF ys fun n => .str (hk n)))) = F at hlF hsF uF ⊢
    refine ⟨_, rfl, l, od, rfl, .inl ⟨_, hlF, fun D hD => fillD walk_keys (fun i H' => Same F H' ∧ H' D = some (.dK (kvF (ys.take i) fun n => .int (wOf hk S n)))) ⟨Same.new hD, upd_same⟩ (fun i H' _ z => z.1 _ _ hlF) ?_ (fun H2 z => ?_)⟩⟩
    · rintro i x H' H'' hi ⟨s2, hD2⟩ ⟨rfl, key, v, hkv, rfl⟩
      obtain ⟨hi1, rfl, rfl⟩ := kvF_at hkv
      have hm : ys[i] ∈ ys := List.getElem_mem hi1
      refine ⟨rfl, _, rfl, _, rfl, _, rfl, s, .int (S ys[i]), rfl, .inl ⟨kss, .inr ys[i], .inl (s2 _ _ hsF), rfl, (hS _ hm).symm⟩, ?_⟩
      refine ⟨_, rfl, _, rfl, l, .str (hk ys[i]), rfl, .inl ⟨_, .inr ys[i], .inr ⟨od, s2 _ _ hlF⟩, rfl, (kvF_val (f := fun n => V.str (hk n)) nd hm).symm⟩, _, rfl, hk ys[i], s, kss, clk S (hk ys[i]), rfl, .inl (s2 _ _ hsF), ?_, ?_⟩
      · by_cases c : hk ys[i] = "clock"
        · exact .inl ⟨c, if_pos c⟩
        · refine .inr ⟨c, ?_⟩
          have hin : hk ys[i] ∈ ys := by
            have := (hO.acy ys[i] _ (mem_F hm)).resolve_left c
            have := this.1
            rwa [ksR_F] at this
          rw [hS _ hin]
          exact congrArg (fun z => some (V.int z)) (if_neg c).symm
      · refine ⟨_, _, rfl, rfl, _, .inr ys[i], rfl, hD2, ?_, ?_, ?_⟩
        · rw [kvF_len, List.length_take]; exact Nat.lt_of_le_of_lt (show min i _ ≤ 64 by omega) (by decide)
        · exact fun c u e => by rw [upd_ne (ne_of_none e hD)]; exact s2 _ _ e
        · rw [upd_same]
          exact congrArg (fun z => some (HO.dK z)) (putF_take (f := fun n => V.int (wOf hk S n)) nd hi1)
    obtain ⟨s2, hD2⟩ := z
    rw [kvF_len, List.take_length] at hD2
    have nDl : D ≠ l := fun e => by rw [e, hlF] at hD; cases hD
    refine ⟨s2 _ _ hlF, ?_⟩
    have S3 := s1.trans (uF _ s2)
    have hl3 : upd H2 l (.dK (kvF ys fun n => .str (hk n))) l = some (.dK (kvF ys fun n => .str (hk n))) := upd_same
    have hD3 : upd H2 l (.dK (kvF ys fun n => .str (hk n))) D = some (.dK (kvW ys (wOf hk S))) := by rw [upd_ne nDl]; exact hD2
    generalize upd H2 l (.dK (kvF ys fun n => .str (hk n))) = H3 at S3 hl3 hD3 ⊢
    clear uF hsF hlF s2 hD2 hD s1 hl1
    refine ⟨_, rfl, D, ys, wOf hk S, rfl, hD3, nd, hl, hsy, hw0, fun H4 s4 => ?_⟩
    have hl4 := s4 _ _ hl3
    have hD4 := s4 _ _ hD3
    -- the rows
    refine ⟨l, _, hl4, trivial, fun od2 => ?_⟩
    have hlF : upd H4 l (.frz od2 (.dK (kvF ys fun n => .str (hk n)))) l = some (.frz od2 (.dK (kvF ys fun n => .str (hk n)))) := upd_same
    have hDF : upd H4 l (.frz od2 (.dK (kvF ys fun n => .str (hk n)))) D = some (.dK (kvW ys (wOf hk S))) := by rw [upd_ne nDl]; exact hD4
    have uF : ∀ H2, Same (upd H4 l (.frz od2 (.dK (kvF ys fun n => .str (hk n))))) H2 → Same H4 (upd H2 l (.dK (kvF ys fun n => .str (hk n)))) := fun H2 s => unfrz hl4 s
    generalize upd H4 l (.frz od2 (.dK (kvF ys fun n => .str (hk n)))) = G at hlF hDF uF ⊢
    refine ⟨_, rfl, l, od2, rfl, .inl ⟨_, hlF, fun R hR => fillD walk_keys (fun i H' => Same G H' ∧ ∃ kvs, H' R = some (.dK kvs) ∧ Pr2 K H' (ys.take i) (fun n => .str (hk n)) (fun n => .int (wOf hk S n)) kvs) ⟨Same.new hR, [], upd_same, Pr2.nil⟩ (fun i H' _ z => z.1 _ _ hlF) ?_ (fun H5 z => ?_)⟩⟩
    · rintro i x H' H'' hi ⟨s5, kvs, hR5, hP5⟩ ⟨rfl, key, v, hkv, rfl⟩
      obtain ⟨hi1, rfl, rfl⟩ := kvF_at hkv
      have hm : ys[i] ∈ ys := List.getElem_mem hi1
      refine ⟨rfl, _, rfl, _, rfl, _, rfl, l, _, rfl, .inl ⟨_, .inr ys[i], .inr ⟨od2, s5 _ _ hlF⟩, rfl, (kvF_val (f := fun n => V.str (hk n)) nd hm).symm⟩, _, rfl, _, rfl, D, _, rfl, .inl ⟨_, .inr ys[i], .inl (s5 _ _ hDF), rfl, (kvF_val (f := fun n => V.int (wOf hk S n)) nd hm).symm⟩, ?_⟩
      refine ⟨by show 2 ≤ sizeLine; decide, fun a na => ⟨_, .inr ys[i], rfl, Same.new na _ _ hR5, ?_, ?_, _, upd_same, hP5.fill nd hi1 na hR5⟩⟩
      · rw [hP5.len, List.length_take]; exact Nat.lt_of_le_of_lt (show min i _ ≤ 64 by omega) (by decide)
      · exact fun c u e => by rw [upd_ne (ne_of_none e hR)]; exact Same.new na _ _ (s5 _ _ e)
    obtain ⟨s5, kvs, hR5, hP5⟩ := z
    rw [kvF_len, List.take_length] at hP5
    have nRl : R ≠ l := fun e => by rw [e, hlF] at hR; cases hR
    refine ⟨s5 _ _ hlF, fun p dx np ndx ndp => ?_⟩
    have S5 := s4.trans (uF _ s5)
    have hR6 : upd H5 l (.dK (kvF ys fun n => .str (hk n))) R = some (.dK kvs) := by rw [upd_ne nRl]; exact hR5
    have hP6 : Pr2 K (upd H5 l (.dK (kvF ys fun n => .str (hk n)))) ys (fun n => .str (hk n)) (fun n => .int (wOf hk S n)) kvs := hP5.set (s5 _ _ hlF) noTup_frz
    generalize upd H5 l (.dK (kvF ys fun n => .str (hk n))) = H6 at S5 hR6 hP6 np ndx ⊢
    have sM : Same H6 (upd (upd H6 dx (.own p)) p (.ins A.a_Book dx [])) := fun b u e => by rw [upd_ne (ne_of_none e np), upd_ne (ne_of_none e ndx)]; exact e
    refine ⟨p, dx, R, kvs, ys, hk, wOf hk S, rk, rfl, upd_same, sM _ _ hR6, (hP6.up sM).x, hO, hw0, fun H7 zs B7 hzs hzy sS => ⟨rfl, ?_⟩⟩
    obtain rfl : zs = ys := asc_eq hzs hzy (sle_sorted hsy)
    exact k p H7 (S3.trans (S5.trans (made (ys := zs) (zs := zs) (hk := hk) (wt := wOf hk S) (R := R) np ndx sS))) (S3.free (S5.free np)) (B7 _ fun _ _ e _ => e)
end
end K5
set_option Elab.async false
set_option linter.all false
set_option maxRecDepth 100000
set_option maxHeartbeats 4000000
namespace K5
open PySem L2
local macro_rules | `(tactic| walk_at "rd1") => `(tactic| first
  | refine ⟨_, _, rfl, rfl, ?_⟩
  | refine ⟨_, _, _, _, rfl, rfl, SqL.of (by assumption), rfl, ?_⟩
  | refine ⟨_, _, _, _, rfl, rfl, (by assumption), rfl, ?_⟩
  | refine .inl ⟨_, rfl, ?_⟩
  | refine ⟨_, rfl, ?_⟩
  | refine ⟨(by unfold CMul; omega), ?_⟩
  | refine ⟨(by unfold CPow; omega), ?_⟩
  | refine ⟨(by (try dsimp only); omega), ?_⟩
  | refine ⟨(by unfold CDiv; omega), ?_⟩
  | fail "rd1")
local macro_rules | `(tactic| walk_at "rd") => `(tactic| repeat' (walk_at "rd1"))
section
variable {P : Program} {w : World} {K : PySem.W.Frag} {mg : Str → Option Value} {base : Heap} {A : Ad}

/-- a book, its hooks told or locked -/
structure BkR (C : Addr) (H : Hp) (p : Addr) (ys : List Str) (hk : Str → Str) (wt : Str → Int) : Prop where
  ex : ∃ dx qh qw, H p = some (.ins C dx [("hooks", .ref qh), ("waits", .ref qw)]) ∧ Rd H qh (.dK (kvF ys fun n => .str (hk n))) ∧ H qw = some (.dK (kvW ys wt))
def spWayUpR : Sp := fun vs H Q _ => ∃ (q : Addr) (rs : Rows) (nm : Str) (ws : List Str), vs = [.str nm, .ref q] ∧ Rd H q (.dK (kvR rs)) ∧ (ksR rs).Nodup ∧ Way rs nm ws ∧ ∀ l H', Same H H' → H l = none → H' l = some (.lst (ws.reverse.map V.str)) → Q (.ref l) H'
theorem ok_wayupr (T : Txt K mg A) : FnOk P w K mg base CX0 1 A.a_way_up A.d_way_up P_way_up spWayUpR := by
  refine T.f_way_up.ok sc_way_up (fun vs H Q E h => ?_) (fun cdv A' outer s H vs Q E hr h => ?_)
  · obtain ⟨q, rs, nm, ws, rfl, _⟩ := h
    rfl
  · obtain ⟨q, rs, nm, ws, rfl, hq, nd, ⟨h, m, pa, hl⟩, k⟩ := h
    refine ⟨_, (pss_cons (ps_set (i := 2) sc_way_up.nd rfl (Or.inl rfl) (pe_lst pa_nil))
 (pss_cons (ps_set (i := 3) sc_way_up.nd rfl (Or.inl rfl) (pe_dget (hu_of hr) (pv 1) (pv 0) (fun _ _ => rfl)))
 (pss_cons (ps_while PassesOwn.never (pt_cmpR op_ne (pv 3) (pe_glob (v := .str "clock") (by rfl) T.g_CLOCK.choose_spec ⟨_, rfl⟩) (nomark _))
 (pss_cons (ps_expr (pe_bm PySem.F.plainAttrs_list PySem.F.slot_list_append PySem.F.type_list_append mt_append (pv 2) (pa_cons (pv 3) pa_nil)))
 (pss_one (ps_set (i := 3) sc_way_up.nd rfl (Or.inl rfl) (pe_dget (hu_of hr) (pv 1) (pv 3) (fun _ _ => rfl))))))
 (pss_one (ps_ret (pe_revL (pv 2))))))), ?_⟩
    refine ⟨Nat.zero_le _, fun l nl => ?_⟩
    have s0 : Same H (upd H l (.lst [])) := Same.new nl
    refine ⟨_, rfl, _, rfl, q, _, rfl, .inl ⟨kvR rs, .inr nm, rdUp hq s0, rfl, (valR nd m).symm⟩, ?_⟩
    refine while_ex (fun mm σ' H' => ∃ (as bs : List Str) (h : Str), σ' = [some (.str nm), some (.ref q), some (.ref l), some (.str h)] ∧ Same H H' ∧ H' l = some (.lst (as.map V.str)) ∧ as ++ bs = ws ∧ Path rs h bs ∧ mm = bs.length)
        (fun σ' H' => ∃ (u : V), σ' = [some (.str nm), some (.ref q), some (.ref l), some u] ∧ Same H H' ∧ H' l = some (.lst (ws.map V.str)))
        ⟨[], ws, h, rfl, s0, upd_same, rfl, pa, rfl⟩ (fun nx hnx => ?_) ?_
    · rintro mm σ' H' ⟨as, bs, h, rfl, s1, hl1, hab, pb, rfl⟩
      refine ⟨_, rfl, rfl, _, rfl, ite2 (fun c1 => ?_) (fun c1 => ?_)⟩
      · cases pb with
        | clock => cases c1
        | @step _ h2 bs' ne m2 r =>
          refine ⟨_, fun _ _ z => z, ?_⟩
          have la : as.length < 64 := by
            have := congrArg List.length hab
            rw [List.length_append, List.length_cons] at this
            omega
          refine ⟨_, rfl, .inl ⟨rfl, _, SqL.of hl1⟩, _, rfl, _, _, _, rfl, rfl, hl1, by rw [List.length_map]; exact Nat.lt_of_lt_of_le la (by decide), ?_⟩
          have s2 : Same H (upd H' l (.lst (as.map V.str ++ [.str h]))) := fun b u e => by rw [upd_ne (ne_of_none e nl)]; exact s1 _ _ e
          refine ⟨_, rfl, _, rfl, q, _, rfl, .inl ⟨kvR rs, .inr h, rdUp hq s2, rfl, (valR nd m2).symm⟩, ?_⟩
          exact ⟨bs'.length, Nat.lt_succ_self _, as ++ [h], bs', h2, rfl, s2, by rw [upd_same, List.map_append]; rfl, by rw [List.append_assoc]; exact hab, r, rfl⟩
      · cases pb with
        | clock =>
          rw [List.append_nil] at hab
          subst hab
          exact hnx _ _ ⟨_, rfl, s1, hl1⟩
        | step ne m2 r => exact absurd (by rw [decide_eq_false (fun z => ne (V.str.inj z))]; rfl) c1
    · rintro σ' H' ⟨u, rfl, s1, hl1⟩
      refine ⟨_, rfl, l, _, rfl, SqL.of hl1, fun r hr => ?_⟩
      refine k r _ (s1.trans (Same.new hr)) (s1.free hr) ?_
      rw [upd_same, List.map_reverse]
theorem kvR_str {ys : List Str} {hk : Str → Str} {H : Hp} {q : Addr} (h : Rd H q (.dK (kvF ys fun n => .str (hk n)))) : Rd H q (.dK (kvR (rowsF ys hk))) := by rw [kvR_F]; exact h
theorem BkAt.r {C : Addr} {H : Hp} {p : Addr} {ys : List Str} {hk : Str → Str} {wt : Str → Int} (h : BkAt C H p ys hk wt) : BkR C H p ys hk wt := by
  obtain ⟨dx, qh, qw, h1, h2, h3⟩ := h.ex
  exact ⟨dx, qh, qw, h1, .inl h2, h3⟩
theorem ks_nd {ys : List Str} {hk : Str → Str} (nd : ys.Nodup) : (ksR (rowsF ys hk)).Nodup := by rw [ksR_F]; exact nd
theorem ks_mem {ys : List Str} {hk : Str → Str} {n : Str} (m : n ∈ ys) : n ∈ ksR (rowsF ys hk) := by rw [ksR_F]; exact m
/-! ### asked of a book: told, or refused -/
def spBWait (K : PySem.W.Frag) (n : Nat) (C CN : Addr) : Sp := fun vs H Q E => ∃ (p : Addr) (ys : List Str) (hk : Str → Str) (wt : Str → Int) (x : V), vs = [.ref p, x] ∧ BkR C H p ys hk wt ∧ ys.Nodup ∧
  ((∃ nm, x = .str nm ∧ nm ∈ ys ∧ Q (.int (wt nm)) H) ∨ Odd K n CN (rowsF ys hk) H x E)
theorem ok_bwait (T : Txt K mg A) (n : Nat) : FnOk P w K mg base (L2.CX P w) (n + 4) A.a_Book_wait A.d_Book_wait P_Book_wait (spBWait K n A.a_Book A.a_NoDish) := by
  have G_check_dish : FnOk P w K mg base (L2.CX P w) (n + 3) A.a_check_dish A.d_check_dish P_check_dish (spChkD K n A.a_NoDish) := ok_chkd T n
  refine T.f_Book_wait.okX sc_Book_wait (fun vs H Q E h => ?_) (fun cdv A' outer s H vs Q E hr h => ?_)
  · obtain ⟨p, ys, hk, wt, x, rfl, _⟩ := h
    rfl
  · obtain ⟨p, ys, hk, wt, x, rfl, B, nd, h⟩ := h
    obtain ⟨dx, qh, qw, hp, hh, hw⟩ := B.ex
    refine ⟨_, (pss_cons (ps_expr (pe_call G_check_dish (hr.mono (by omega)) (by rfl) T.g_check_dish T.f_check_dish.kp T.b_check_dish .nil (passes_call (takes_of rfl rfl rfl rfl) (fun _ _ _ _ h => h)) (pa_cons (pv 1) (pa_cons (pe_fld (pv 0) rfl) pa_nil))))
 (PSs.nox (pss_one (ps_ret (pe_dget (hu_of hr) (pe_fld (pv 0) rfl) (pv 1) (fun _ _ => rfl)))))), ?_⟩
    refine ⟨_, rfl, _, rfl, p, A.a_Book, dx, _, _, rfl, hp, T.cl_B, T.nBH, rfl, ?_⟩
    rcases h with ⟨nm, rfl, m, k⟩ | o
    · refine ⟨qh, rowsF ys hk, _, rfl, kvR_str hh, ks_nd nd, .inl ⟨nm, rfl, ks_mem m, ?_⟩⟩
      exact ⟨_, rfl, p, A.a_Book, dx, _, _, rfl, hp, T.cl_B, T.nBW, rfl, _, rfl, qw, _, rfl, .inl ⟨_, .inr nm, .inl hw, rfl, (kvF_val (f := fun n => V.int (wt n)) nd m).symm⟩, k⟩
    · exact ⟨qh, rowsF ys hk, x, rfl, kvR_str hh, ks_nd nd, .inr o⟩
def spBItem (K : PySem.W.Frag) (n : Nat) (C CN : Addr) : Sp := fun vs H Q E => ∃ (p : Addr) (ys : List Str) (hk : Str → Str) (wt : Str → Int) (x : V), vs = [.ref p, x] ∧ BkR C H p ys hk wt ∧ ys.Nodup ∧
  ((∃ nm, x = .str nm ∧ nm ∈ ys ∧ ∀ t, H t = none → Q (.ref t) (upd H t (.tup [.str (hk nm), .int (wt nm)]))) ∨ Odd K n CN (rowsF ys hk) H x E)
theorem ok_bitem (T : Txt K mg A) (n : Nat) : FnOk P w K mg base (L2.CX P w) (n + 4) A.a_Book___getitem__ A.d_Book___getitem__ P_Book___getitem__ (spBItem K n A.a_Book A.a_NoDish) := by
  have G_check_dish : FnOk P w K mg base (L2.CX P w) (n + 3) A.a_check_dish A.d_check_dish P_check_dish (spChkD K n A.a_NoDish) := ok_chkd T n
  refine T.f_Book___getitem__.okX sc_Book___getitem__ (fun vs H Q E h => ?_) (fun cdv A' outer s H vs Q E hr h => ?_)
  · obtain ⟨p, ys, hk, wt, x, rfl, _⟩ := h
    rfl
  · obtain ⟨p, ys, hk, wt, x, rfl, B, nd, h⟩ := h
    obtain ⟨dx, qh, qw, hp, hh, hw⟩ := B.ex
    refine ⟨_, (pss_cons (ps_expr (pe_call G_check_dish (hr.mono (by omega)) (by rfl) T.g_check_dish T.f_check_dish.kp T.b_check_dish .nil (passes_call (takes_of rfl rfl rfl rfl) (fun _ _ _ _ h => h)) (pa_cons (pv 1) (pa_cons (pe_fld (pv 0) rfl) pa_nil))))
 (PSs.nox (pss_one (ps_ret (pe_tup (pa_cons (pe_dget (hu_of hr) (pe_fld (pv 0) rfl) (pv 1) (fun _ _ => rfl)) (pa_cons (pe_dget (hu_of hr) (pe_fld (pv 0) rfl) (pv 1) (fun _ _ => rfl)) pa_nil))))))), ?_⟩
    refine ⟨_, rfl, _, rfl, p, A.a_Book, dx, _, _, rfl, hp, T.cl_B, T.nBH, rfl, ?_⟩
    rcases h with ⟨nm, rfl, m, k⟩ | o
    · refine ⟨qh, rowsF ys hk, _, rfl, kvR_str hh, ks_nd nd, .inl ⟨nm, rfl, ks_mem m, ?_⟩⟩
      refine ⟨_, rfl, p, A.a_Book, dx, _, _, rfl, hp, T.cl_B, T.nBH, rfl, _, rfl, qh, _, rfl, .inl ⟨_, .inr nm, hh, rfl, (kvF_val (f := fun n => V.str (hk n)) nd m).symm⟩, ?_⟩
      exact ⟨_, rfl, p, A.a_Book, dx, _, _, rfl, hp, T.cl_B, T.nBW, rfl, _, rfl, qw, _, rfl, .inl ⟨_, .inr nm, .inl hw, rfl, (kvF_val (f := fun n => V.int (wt n)) nd m).symm⟩, by show 2 ≤ sizeLine; decide, fun t nt => k t nt⟩
    · exact ⟨qh, rowsF ys hk, x, rfl, kvR_str hh, ks_nd nd, .inr o⟩
def spBAdded (K : PySem.W.Frag) (n : Nat) (C CN : Addr) : Sp := fun vs H Q E => ∃ (p : Addr) (ys : List Str) (hk : Str → Str) (wt : Str → Int) (x : V), vs = [.ref p, x] ∧ BkR C H p ys hk wt ∧ ys.Nodup ∧
  ((∃ nm ws, x = .str nm ∧ nm ∈ ys ∧ Way (rowsF ys hk) nm ws ∧ (∀ w ∈ ws, w ∈ ys) ∧ ∀ H', Same H H' → Q (.int (wt nm + (ws.reverse.map wt).sum)) H') ∨ Odd K n CN (rowsF ys hk) H x E)
theorem ok_badded (T : Txt K mg A) (n : Nat) : FnOk P w K mg base (L2.CX P w) (n + 4) A.a_Book_added A.d_Book_added P_Book_added (spBAdded K n A.a_Book A.a_NoDish) := by
  have G_check_dish : FnOk P w K mg base (L2.CX P w) (n + 3) A.a_check_dish A.d_check_dish P_check_dish (spChkD K n A.a_NoDish) := ok_chkd T n
  have G_way_up : FnOk P w K mg base CX0 1 A.a_way_up A.d_way_up P_way_up spWayUpR := ok_wayupr T
  refine T.f_Book_added.okX sc_Book_added (fun vs H Q E h => ?_) (fun cdv A' outer s H vs Q E hr h => ?_)
  · obtain ⟨p, ys, hk, wt, x, rfl, _⟩ := h
    rfl
  · obtain ⟨p, ys, hk, wt, x, rfl, B, nd, h⟩ := h
    obtain ⟨dx, qh, qw, hp, hh, hw⟩ := B.ex
    refine ⟨_, (pss_cons (ps_expr (pe_call G_check_dish (hr.mono (by omega)) (by rfl) T.g_check_dish T.f_check_dish.kp T.b_check_dish .nil (passes_call (takes_of rfl rfl rfl rfl) (fun _ _ _ _ h => h)) (pa_cons (pv 1) (pa_cons (pe_fld (pv 0) rfl) pa_nil))))
 (PSs.nox (pss_one (ps_ret (pe_op op_add (pe_dget (hu_of hr) (pe_fld (pv 0) rfl) (pv 1) (fun _ _ => rfl)) (pe_callB (cr_sum rfl) (by rfl) T.sum (by decide +kernel) (pa_cons (pe_lc (own := [("dish", 2)]) (g := gName 2) (by rfl) sc_Book_added.nd (pi_list (pe_call G_way_up (hr.mono (by omega)) (by rfl) T.g_way_up T.f_way_up.kp T.b_way_up .nil pass0 (pa_cons (pv 1) (pa_cons (pe_fld (pv 0) rfl) pa_nil)))) (blkOk_by (N := N_Book_added) (sc := defScope s_Book_added) (by decide +kernel)) (fun _ _ _ _ _ => pg_name (i := 2) sc_Book_added.nd rfl (Or.inl rfl)) (fun _ _ _ _ _ => pts_nil) (fun _ _ _ _ _ => (pe_dget (hu_of hr) (Own.fldOf (K := K) rfl (pv 0) rfl) (pv 2) (fun _ _ => rfl)))) pa_nil))))))), ?_⟩
    refine ⟨_, rfl, _, rfl, p, A.a_Book, dx, _, _, rfl, hp, T.cl_B, T.nBH, rfl, ?_⟩
    rcases h with ⟨nm, ws, rfl, m, hW, hws, k⟩ | o
    · refine ⟨qh, rowsF ys hk, _, rfl, kvR_str hh, ks_nd nd, .inl ⟨nm, rfl, ks_mem m, ?_⟩⟩
      refine ⟨_, rfl, p, A.a_Book, dx, _, _, rfl, hp, T.cl_B, T.nBW, rfl, _, rfl, qw, _, rfl, .inl ⟨_, .inr nm, .inl hw, rfl, (kvF_val (f := fun n => V.int (wt n)) nd m).symm⟩, ?_⟩
      refine ⟨_, rfl, _, rfl, p, A.a_Book, dx, _, _, rfl, hp, T.cl_B, T.nBH, rfl, qh, rowsF ys hk, nm, ws, rfl, kvR_str hh, ks_nd nd, hW, fun l H1 s1 nl hl1 => ?_⟩
      have wl : ws.length ≤ 64 := hW.choose_spec.2.2
      refine ⟨l, rfl, ⟨_, SqL.of hl1⟩, fun D hD => lc_it walk_list (fun i H' => Same H1 H' ∧ H' D = some (.lst (((ws.reverse.take i).map wt).map V.int))) ⟨Same.new hD, upd_same⟩ (fun i H' _ z => SqL.of (z.1 _ _ hl1)) ?_ (fun H2 z => ?_)⟩
      · rintro i x H' H'' hi ⟨s2, hD2⟩ ⟨rfl, hx⟩
        obtain ⟨hi, rfl⟩ := str_at hx
        have hm2 : ws.reverse[i] ∈ ys := hws _ (List.mem_reverse.mp (List.getElem_mem hi))
        have S2 := s1.trans s2
        refine ⟨rfl, _, rfl, p, A.a_Book, dx, _, _, rfl, S2 _ _ hp, T.cl_B, T.nBW, rfl, _, rfl, qw, _, rfl, .inl ⟨_, .inr ws.reverse[i], .inl (S2 _ _ hw), rfl, (kvF_val (f := fun n => V.int (wt n)) nd hm2).symm⟩, _, hD2, ?_, ?_, ?_⟩
        · rw [List.length_map, List.length_map, List.length_take, List.length_reverse]; exact Nat.lt_of_le_of_lt (show min i _ ≤ 64 by omega) (by decide)
        · exact fun b u e => by rw [upd_ne (ne_of_none e hD)]; exact s2 _ _ e
        · rw [upd_same, take_map wt hi, List.map_append]; rfl
      · obtain ⟨s2, hD2⟩ := z
        rw [List.length_map, List.take_length] at hD2
        exact ⟨D, _, rfl, SqL.of hD2, _, _, rfl, rfl, k _ (s1.trans s2)⟩
    · exact ⟨qh, rowsF ys hk, x, rfl, kvR_str hh, ks_nd nd, .inr o⟩
end
end K5
set_option Elab.async false
set_option linter.all false
set_option maxRecDepth 100000
set_option maxHeartbeats 4000000
namespace K5
open PySem L2
local macro_rules | `(tactic| walk_at "rd1") => `(tactic| first
  | refine ⟨_, _, rfl, rfl, ?_⟩
  | refine ⟨_, _, _, _, rfl, rfl, SqL.of (by assumption), rfl, ?_⟩
  | refine ⟨_, _, _, _, rfl, rfl, (by assumption), rfl, ?_⟩
  | refine .inl ⟨_, rfl, ?_⟩
  | refine ⟨_, rfl, ?_⟩
  | refine ⟨(by unfold CMul; omega), ?_⟩
  | refine ⟨(by unfold CPow; omega), ?_⟩
  | refine ⟨(by (try dsimp only); omega), ?_⟩
  | refine ⟨(by unfold CDiv; omega), ?_⟩
  | fail "rd1")
local macro_rules | `(tactic| walk_at "rd") => `(tactic| repeat' (walk_at "rd1"))
section
variable {P : Program} {w : World} {K : PySem.W.Frag} {mg : Str → Option Value} {base : Heap} {A : Ad}

/-! ### lists for tuples, by draws -/
def Atm (x : V) : Prop := (∃ s, x = .str s) ∨ ∃ i, x = .int i
def spLoose0 : Sp := fun vs H Q _ => ∃ (st : Addr) (x : V), vs = [.ref st, x] ∧ Atm x ∧ ∀ H', Same H H' → Q x H'
theorem ok_loose0 (T : Txt K mg A) : FnOk P w K mg base CX0 1 A.a__law_loose A.d__law_loose P__law_loose spLoose0 := by
  have G__law_loose : FnOk P w K mg base CX0 0 A.a__law_loose A.d__law_loose P__law_loose (fun _ _ _ _ => False) := no_fn fun _ _ _ _ h => h
  have G__law_take : FnOk P w K mg base CX0 0 A.a__law_take A.d__law_take P__law_take (fun _ _ _ _ => False) := no_fn fun _ _ _ _ h => h
  refine T.f__law_loose.ok sc__law_loose (fun vs H Q E h => ?_) (fun cdv A' outer s H vs Q E hr h => ?_)
  · obtain ⟨st, x, rfl, _⟩ := h
    rfl
  · obtain ⟨st, x, rfl, hx, k⟩ := h
    refine ⟨_, (pss_cons (ps_if (pt_val (pe_callB call_isiT (by rfl) T.isinstance (by decide +kernel) (pa_cons (pv 1) (pa_cons (pe_tup (pa_cons (pe_bltn (v := .ty "list") (u := .type "list") (by rfl) T.list (by decide +kernel) rfl) (pa_cons (pe_bltn (v := .ty "tuple") (u := .type "tuple") (by rfl) T.tuple (by decide +kernel) rfl) pa_nil))) pa_nil))))
 (pss_cons (ps_setLc (i := 2) (own := [("_law_x", 3)]) (g := gName 3)  (by rfl) sc__law_loose.nd rfl rfl (sw_true rfl rfl rfl (by decide +kernel)) (EnT.pi_or (pi_list (pv 1)) (pi_tup (pv 1))) (blkOk_by (N := N__law_loose) (sc := defScope s__law_loose) (by decide +kernel)) (fun _ _ _ _ _ => pg_name (i := 3) sc__law_loose.nd rfl (Or.inl rfl)) (fun _ _ _ _ _ => pts_nil) (fun _ _ _ _ _ => (pe_call G__law_loose (hr.mono (by omega)) (by rfl) T.g__law_loose T.f__law_loose.kp T.b__law_loose .nil pass0 (pa_cons (pv 0) (pa_cons (pv 3) pa_nil)))))
 (pss_one (ps_ret (pe_ifExp (pt_cmpR op_eq (pe_call G__law_take (hr.mono (by omega)) (by rfl) T.g__law_take T.f__law_take.kp T.b__law_take .nil pass0 (pa_cons (pv 0) (pa_cons pe_int pa_nil))) pe_int (nomark _)) (pv 2) (pe_callTy call_tuple_of (by rfl) T.tuple (by decide +kernel) (pa_cons (pv 2) pa_nil))))))
 pss_nil)
 (pss_one (ps_ret (pv 1)))), ?_⟩
    refine ⟨_, rfl, by show 2 ≤ sizeLine; decide, fun p hp => ?_⟩
    rcases hx with ⟨z, rfl⟩ | ⟨z, rfl⟩
    · exact ⟨_, p, _, _, _, false, rfl, upd_same, .cons (.ty _) (.cons (.ty _) .nil), .base (.str _), kit2 (a := "str") (b := "list") (c := "tuple") (r := false) (s := false) (by decide +kernel) (by decide +kernel), _, rfl, iteF ⟨_, rfl, k _ (Same.new hp)⟩⟩
    · exact ⟨_, p, _, _, _, false, rfl, upd_same, .cons (.ty _) (.cons (.ty _) .nil), .base (.int _), kit2 (a := "int") (b := "list") (c := "tuple") (r := false) (s := false) (by decide +kernel) (by decide +kernel), _, rfl, iteF ⟨_, rfl, k _ (Same.new hp)⟩⟩
def spLoose (K : PySem.W.Frag) : Sp := fun vs H Q _ => ∃ (st c t : Addr) (h : Str) (i b : Int), vs = [.ref st, .ref t] ∧ Sta H st c b ∧ b + 1 ≤ 1000000 ∧ SqT K (er H st) t [.str h, .int i] ∧
  ∀ r H', Gs st c H H' (b + 1) → er H st r = none → (er H' st r = some (.lst [.str h, .int i]) ∨ er H' st r = some (.tup [.str h, .int i])) → Q (.ref r) H'
theorem ok_loose (T : Txt K mg A) : FnOk P w K mg base CX0 2 A.a__law_loose A.d__law_loose P__law_loose (spLoose K) := by
  have G__law_loose : FnOk P w K mg base CX0 1 A.a__law_loose A.d__law_loose P__law_loose spLoose0 := ok_loose0 T
  have G__law_take : FnOk P w K mg base CX0 1 A.a__law_take A.d__law_take P__law_take spTake := ok_take T
  refine T.f__law_loose.ok sc__law_loose (fun vs H Q E h => ?_) (fun cdv A' outer s H vs Q E hr h => ?_)
  · obtain ⟨st, c, t, h, i, b, rfl, _⟩ := h
    rfl
  · obtain ⟨st, c, t, h, i, b, rfl, S, hb, ht, k⟩ := h
    refine ⟨_, (pss_cons (ps_if (pt_val (pe_callB call_isiT (by rfl) T.isinstance (by decide +kernel) (pa_cons (pv 1) (pa_cons (pe_tup (pa_cons (pe_bltn (v := .ty "list") (u := .type "list") (by rfl) T.list (by decide +kernel) rfl) (pa_cons (pe_bltn (v := .ty "tuple") (u := .type "tuple") (by rfl) T.tuple (by decide +kernel) rfl) pa_nil))) pa_nil))))
 (pss_cons (ps_setLc (i := 2) (own := [("_law_x", 3)]) (g := gName 3)  (by rfl) sc__law_loose.nd rfl rfl (sw_true rfl rfl rfl (by decide +kernel)) (EnT.pi_or (pi_list (pv 1)) (pi_tup (pv 1))) (blkOk_by (N := N__law_loose) (sc := defScope s__law_loose) (by decide +kernel)) (fun _ _ _ _ _ => pg_name (i := 3) sc__law_loose.nd rfl (Or.inl rfl)) (fun _ _ _ _ _ => pts_nil) (fun _ _ _ _ _ => (pe_call G__law_loose (hr.mono (by omega)) (by rfl) T.g__law_loose T.f__law_loose.kp T.b__law_loose .nil pass0 (pa_cons (pv 0) (pa_cons (pv 3) pa_nil)))))
 (pss_one (ps_ret (pe_ifExp (pt_cmpR op_eq (pe_call G__law_take (hr.mono (by omega)) (by rfl) T.g__law_take T.f__law_take.kp T.b__law_take .nil pass0 (pa_cons (pv 0) (pa_cons pe_int pa_nil))) pe_int (nomark _)) (pv 2) (pe_callTy call_tuple_of (by rfl) T.tuple (by decide +kernel) (pa_cons (pv 2) pa_nil))))))
 pss_nil)
 (pss_one (ps_ret (pv 1)))), ?_⟩
    refine ⟨_, rfl, by show 2 ≤ sizeLine; decide, fun p hp => ?_⟩
    have t0 : SqT K H t [.str h, .int i] := stUp ht (er_same _ _)
    have s1 : Same H (upd H p (.tup [.ty "list", .ty "tuple"])) := Same.new hp
    have hpt : upd H p (.tup [.ty "list", .ty "tuple"]) p = some (.tup [.ty "list", .ty "tuple"]) := upd_same
    generalize upd H p (.tup [.ty "list", .ty "tuple"]) = H1 at s1 hpt ⊢
    refine ⟨_, p, _, _, _, true, rfl, hpt, .cons (.ty _) (.cons (.ty _) .nil), tyT (stUp t0 s1), kit2 (a := "tuple") (b := "list") (c := "tuple") (r := false) (s := true) (by decide +kernel) (by decide +kernel), _, rfl, iteT ?_⟩
    refine seq_or (H0 := H1) (.inr (stUp t0 s1)) (Same.refl _) rfl fun J Gd wk hG => fun D hD => lc_it wk (fun j H' => Same H1 H' ∧ H' D = some (.lst ([V.str h, V.int i].take j))) ⟨Same.new hD, upd_same⟩ (fun j H' _ z => hG H' z.1) ?_ (fun H2 z => ?_)
    · rintro j v H' H'' hj ⟨s2, hD2⟩ ⟨rfl, hv⟩
      have hj2 : j < 2 := hj
      have ha : Atm v := by
        have hm := List.mem_of_getElem? hv
        simp only [List.mem_cons, List.not_mem_nil, or_false] at hm
        rcases hm with e | e
        · exact .inl ⟨_, e⟩
        · exact .inr ⟨_, e⟩
      refine ⟨rfl, _, rfl, _, rfl, st, v, rfl, ha, fun H3 s3 => ?_⟩
      refine ⟨_, s3 _ _ hD2, ?_, ?_, ?_⟩
      · rw [List.length_take]; exact Nat.lt_of_le_of_lt (Nat.min_le_right _ _) (show 2 < sizeLine by decide)
      · exact fun b u e => by rw [upd_ne (ne_of_none e hD)]; exact s3 _ _ (s2 _ _ e)
      · rw [upd_same, List.take_succ, hv]; rfl
    obtain ⟨s2, hD2⟩ := z
    have hD2 : H2 D = some (.lst [.str h, .int i]) := hD2
    have g2 : Gs st c H H2 b := Gs.of_same S (s1.trans s2)
    have hD0 : H D = none := s1.free hD
    have nD : st ≠ D := fun e => by
      obtain ⟨cs, q, l, m, n, e1, _⟩ := S.ex
      rw [← e, e1] at hD0; cases hD0
    have hDe : er H st D = none := by
      cases e : er H st D with
      | none => rfl
      | some u => rw [(er_some e).2] at hD0; cases hD0
    refine ⟨_, rfl, st, c, 2, b, rfl, g2.sta, by omega, by omega, by omega, fun r o hr0 hr1 S3 => ?_⟩
    have g3 := g2.trans (Gs.of_upd S3)
    have hD3 : er (upd H2 st o) st D = some (.lst [.str h, .int i]) := by rw [er_upd]; exact er_of nD.symm hD2
    generalize upd H2 st o = H3 at S3 g3 hD3 ⊢
    refine ⟨rfl, _, rfl, ite2 (fun c => ?_) (fun c => ?_)⟩
    · exact ⟨_, rfl, k D H3 g3 hDe (.inl hD3)⟩
    · refine ⟨_, rfl, D, _, rfl, .inl ⟨SqL.of ((er_same _ _) _ _ hD3), fun l nl => ?_⟩⟩
      have ml := S3.ne nl
      exact k l _ (g3.new nl) (g3.same.free (er_none nl)) (.inr (er_of ml upd_same))
/-! ### lists changed behind the book's back -/
def spBend0 : Sp := fun vs H Q _ => ∃ (x : V), vs = [x] ∧ Atm x ∧ ∀ H', Same H H' → Q .non H'
theorem ok_bend0 (T : Txt K mg A) : FnOk P w K mg base CX0 1 A.a__law_bend A.d__law_bend P__law_bend spBend0 := by
  have G__law_bend : FnOk P w K mg base CX0 0 A.a__law_bend A.d__law_bend P__law_bend (fun _ _ _ _ => False) := no_fn fun _ _ _ _ h => h
  refine T.f__law_bend.ok sc__law_bend (fun vs H Q E h => ?_) (fun cdv A' outer s H vs Q E hr h => ?_)
  · obtain ⟨x, rfl, _⟩ := h
    rfl
  · obtain ⟨x, rfl, hx, k⟩ := h
    refine ⟨_, (pss_cons (ps_if (pt_val (pe_callB call_isiT (by rfl) T.isinstance (by decide +kernel) (pa_cons (pv 0) (pa_cons (pe_tup (pa_cons (pe_bltn (v := .ty "list") (u := .type "list") (by rfl) T.list (by decide +kernel) rfl) (pa_cons (pe_bltn (v := .ty "tuple") (u := .type "tuple") (by rfl) T.tuple (by decide +kernel) rfl) pa_nil))) pa_nil))))
 (pss_one (ps_for PassesOwn.never rfl (EnT.pi_or (pi_list (pv 0)) (pi_tup (pv 0))) (pg_name (i := 1) sc__law_bend.nd rfl (Or.inl rfl))
 (pss_one (ps_expr (pe_call G__law_bend (hr.mono (by omega)) (by rfl) T.g__law_bend T.f__law_bend.kp T.b__law_bend .nil pass0 (pa_cons (pv 1) pa_nil))))))
 pss_nil)
 (pss_one (ps_if (pt_val (pe_callB call_isi (by rfl) T.isinstance (by decide +kernel) (pa_cons (pv 0) (pa_cons (pe_bltn (v := .ty "list") (u := .type "list") (by rfl) T.list (by decide +kernel) rfl) pa_nil))))
 (pss_one (ps_expr (pe_bm PySem.F.plainAttrs_list PySem.F.slot_list_append PySem.F.type_list_append mt_append (pv 0) (pa_cons pe_str pa_nil))))
 pss_nil))), ?_⟩
    refine ⟨_, rfl, by show 2 ≤ sizeLine; decide, fun p hp => ?_⟩
    rcases hx with ⟨z, rfl⟩ | ⟨z, rfl⟩
    · refine ⟨_, p, _, _, _, false, rfl, upd_same, .cons (.ty _) (.cons (.ty _) .nil), .base (.str _), kit2 (a := "str") (b := "list") (c := "tuple") (r := false) (s := false) (by decide +kernel) (by decide +kernel), _, rfl, iteF ?_⟩
      exact ⟨_, rfl, _, _, .type "str", _, false, rfl, .ty _, .base (.str _), kit_ty (by decide +kernel), _, rfl, iteF (k _ (Same.new hp))⟩
    · refine ⟨_, p, _, _, _, false, rfl, upd_same, .cons (.ty _) (.cons (.ty _) .nil), .base (.int _), kit2 (a := "int") (b := "list") (c := "tuple") (r := false) (s := false) (by decide +kernel) (by decide +kernel), _, rfl, iteF ?_⟩
      exact ⟨_, rfl, _, _, .type "int", _, false, rfl, .ty _, .base (.int _), kit_ty (by decide +kernel), _, rfl, iteF (k _ (Same.new hp))⟩
/-- a thing to bend: a list of atoms, or a tuple of them -/
def BdT (n : Nat) (H : Hp) (a : Addr) : Prop := (∃ xs, H a = some (.lst xs) ∧ (∀ x ∈ xs, Atm x) ∧ xs.length ≤ n) ∨ ∃ xs, H a = some (.tup xs) ∧ ∀ x ∈ xs, Atm x
/-- H' is H but for the list at a -/
def But (a : Addr) (H H' : Hp) : Prop := ∀ b u, H b = some u → b ≠ a → H' b = some u
def spBend1 (K : PySem.W.Frag) : Sp := fun vs H Q _ => ∃ (a : Addr) (n : Nat), vs = [.ref a] ∧ n ≤ 1000 ∧ BdT n H a ∧ ∀ H', But a H H' → BdT (n + 1) H' a → Q .non H'
theorem ok_bend1 (T : Txt K mg A) : FnOk P w K mg base CX0 2 A.a__law_bend A.d__law_bend P__law_bend (spBend1 K) := by
  have G__law_bend : FnOk P w K mg base CX0 1 A.a__law_bend A.d__law_bend P__law_bend spBend0 := ok_bend0 T
  refine T.f__law_bend.ok sc__law_bend (fun vs H Q E h => ?_) (fun cdv A' outer s H vs Q E hr h => ?_)
  · obtain ⟨a, n, rfl, _⟩ := h
    rfl
  · obtain ⟨a, n, rfl, hn, hB, k⟩ := h
    refine ⟨_, (pss_cons (ps_if (pt_val (pe_callB call_isiT (by rfl) T.isinstance (by decide +kernel) (pa_cons (pv 0) (pa_cons (pe_tup (pa_cons (pe_bltn (v := .ty "list") (u := .type "list") (by rfl) T.list (by decide +kernel) rfl) (pa_cons (pe_bltn (v := .ty "tuple") (u := .type "tuple") (by rfl) T.tuple (by decide +kernel) rfl) pa_nil))) pa_nil))))
 (pss_one (ps_for PassesOwn.never rfl (EnT.pi_or (pi_list (pv 0)) (pi_tup (pv 0))) (pg_name (i := 1) sc__law_bend.nd rfl (Or.inl rfl))
 (pss_one (ps_expr (pe_call G__law_bend (hr.mono (by omega)) (by rfl) T.g__law_bend T.f__law_bend.kp T.b__law_bend .nil pass0 (pa_cons (pv 1) pa_nil))))))
 pss_nil)
 (pss_one (ps_if (pt_val (pe_callB call_isi (by rfl) T.isinstance (by decide +kernel) (pa_cons (pv 0) (pa_cons (pe_bltn (v := .ty "list") (u := .type "list") (by rfl) T.list (by decide +kernel) rfl) pa_nil))))
 (pss_one (ps_expr (pe_bm PySem.F.plainAttrs_list PySem.F.slot_list_append PySem.F.type_list_append mt_append (pv 0) (pa_cons pe_str pa_nil))))
 pss_nil))), ?_⟩
    refine ⟨_, rfl, by show 2 ≤ sizeLine; decide, fun p hp => ?_⟩
    have s1 : Same H (upd H p (.tup [.ty "list", .ty "tuple"])) := Same.new hp
    have hpt : upd H p (.tup [.ty "list", .ty "tuple"]) p = some (.tup [.ty "list", .ty "tuple"]) := upd_same
    generalize upd H p (.tup [.ty "list", .ty "tuple"]) = H1 at s1 hpt ⊢
    rcases hB with ⟨xs, ha, hx, hl⟩ | ⟨xs, ha, hx⟩
    · refine ⟨_, p, _, _, _, true, rfl, hpt, .cons (.ty _) (.cons (.ty _) .nil), tyL (SqL.of (s1 _ _ ha)), kit2 (a := "list") (b := "list") (c := "tuple") (r := true) (s := false) (by decide +kernel) (by decide +kernel), _, rfl, iteT ?_⟩
      refine seq_or (H0 := H1) (.inl (SqL.of (s1 _ _ ha))) (Same.refl _) rfl fun J Gd wk hG => for_it wk (fun i σ' H' => ∃ x, σ' = [some (.ref a), x] ∧ Same H1 H') ⟨_, rfl, Same.refl _⟩ (fun i σ' H' _ ⟨_, _, z⟩ => hG H' z) ?_ ?_
      · rintro i x σ' H' H'' hi ⟨x0, rfl, s2⟩ ⟨rfl, hv⟩
        refine ⟨_, rfl, x, rfl, hx x (List.mem_of_getElem? hv), fun H3 s3 => ⟨_, rfl, s2.trans s3⟩⟩
      · rintro σ' H' ⟨x, rfl, s2⟩
        have ha2 := s2 _ _ (s1 _ _ ha)
        refine ⟨_, rfl, _, _, .type "list", _, true, rfl, .ty _, tyL (SqL.of ha2), kit_ty (by decide +kernel), _, rfl, iteT ?_⟩
        have S2 := s1.trans s2
        refine ⟨_, rfl, .inl ⟨rfl, _, SqL.of ha2⟩, _, _, _, rfl, rfl, ha2, Nat.lt_of_le_of_lt (show xs.length ≤ 1000 by omega) (by decide), ?_⟩
        refine k _ (fun b u e ne => by rw [upd_ne ne]; exact S2 _ _ e) (.inl ⟨_, upd_same, fun x m => ?_, by rw [List.length_append]; exact Nat.succ_le_succ hl⟩)
        rcases List.mem_append.mp m with m | m
        · exact hx x m
        · exact .inl ⟨_, List.mem_singleton.mp m⟩
    · refine ⟨_, p, _, _, _, true, rfl, hpt, .cons (.ty _) (.cons (.ty _) .nil), tyT (SqT.of (s1 _ _ ha)), kit2 (a := "tuple") (b := "list") (c := "tuple") (r := false) (s := true) (by decide +kernel) (by decide +kernel), _, rfl, iteT ?_⟩
      refine seq_or (H0 := H1) (.inr (SqT.of (s1 _ _ ha))) (Same.refl _) rfl fun J Gd wk hG => for_it wk (fun i σ' H' => ∃ x, σ' = [some (.ref a), x] ∧ Same H1 H') ⟨_, rfl, Same.refl _⟩ (fun i σ' H' _ ⟨_, _, z⟩ => hG H' z) ?_ ?_
      · rintro i x σ' H' H'' hi ⟨x0, rfl, s2⟩ ⟨rfl, hv⟩
        refine ⟨_, rfl, x, rfl, hx x (List.mem_of_getElem? hv), fun H3 s3 => ⟨_, rfl, s2.trans s3⟩⟩
      · rintro σ' H' ⟨x, rfl, s2⟩
        have S2 := s1.trans s2
        have ha2 := S2 _ _ ha
        refine ⟨_, rfl, _, _, .type "tuple", _, false, rfl, .ty _, tyT (SqT.of ha2), kit_ty (by decide +kernel), _, rfl, iteF ?_⟩
        exact k _ (fun b u e _ => S2 _ _ e) (.inr ⟨xs, ha2, hx⟩)
theorem BdT.mono {n m : Nat} {H : Hp} {a : Addr} (h : BdT n H a) (e : n ≤ m) : BdT m H a := h.imp_left fun ⟨xs, h1, h2, h3⟩ => ⟨xs, h1, h2, Nat.le_trans h3 e⟩
theorem BdT.but {n : Nat} {H H' : Hp} {a b : Addr} (h : BdT n H b) (s : But a H H') (e : b ≠ a) : BdT n H' b := h.imp (fun ⟨xs, h1, h2⟩ => ⟨xs, s _ _ h1 e, h2⟩) (fun ⟨xs, h1, h2⟩ => ⟨xs, s _ _ h1 e, h2⟩)
theorem BdT.up {n : Nat} {H H' : Hp} {b : Addr} (h : BdT n H b) (s : Same H H') : BdT n H' b := h.imp (fun ⟨xs, h1, h2⟩ => ⟨xs, s _ _ h1, h2⟩) (fun ⟨xs, h1, h2⟩ => ⟨xs, s _ _ h1, h2⟩)
theorem BdT.some {n : Nat} {H : Hp} {b : Addr} (h : BdT n H b) : ∃ u, H b = Option.some u := h.elim (fun ⟨xs, h1, _⟩ => ⟨_, h1⟩) (fun ⟨xs, h1, _⟩ => ⟨_, h1⟩)
/-- H' is H but for the lists at as -/
def ButA (as : List Addr) (H H' : Hp) : Prop := ∀ b u, H b = some u → b ∉ as → H' b = some u
def spBend2 : Sp := fun vs H Q _ => ∃ (l : Addr) (as : List Addr), vs = [.ref l] ∧ H l = some (.lst (as.map V.ref)) ∧ as.length ≤ 64 ∧ l ∉ as ∧ (∀ a ∈ as, BdT 2 H a) ∧ ∀ H', ButA (l :: as) H H' → Q .non H'
theorem ok_bend2 (T : Txt K mg A) : FnOk P w K mg base CX0 3 A.a__law_bend A.d__law_bend P__law_bend spBend2 := by
  have G__law_bend : FnOk P w K mg base CX0 2 A.a__law_bend A.d__law_bend P__law_bend (spBend1 K) := ok_bend1 T
  refine T.f__law_bend.ok sc__law_bend (fun vs H Q E h => ?_) (fun cdv A' outer s H vs Q E hr h => ?_)
  · obtain ⟨l, as, rfl, _⟩ := h
    rfl
  · obtain ⟨l, as, rfl, hl, hn, nl, hB, k⟩ := h
    refine ⟨_, (pss_cons (ps_if (pt_val (pe_callB call_isiT (by rfl) T.isinstance (by decide +kernel) (pa_cons (pv 0) (pa_cons (pe_tup (pa_cons (pe_bltn (v := .ty "list") (u := .type "list") (by rfl) T.list (by decide +kernel) rfl) (pa_cons (pe_bltn (v := .ty "tuple") (u := .type "tuple") (by rfl) T.tuple (by decide +kernel) rfl) pa_nil))) pa_nil))))
 (pss_one (ps_for PassesOwn.never rfl (EnT.pi_or (pi_list (pv 0)) (pi_tup (pv 0))) (pg_name (i := 1) sc__law_bend.nd rfl (Or.inl rfl))
 (pss_one (ps_expr (pe_call G__law_bend (hr.mono (by omega)) (by rfl) T.g__law_bend T.f__law_bend.kp T.b__law_bend .nil pass0 (pa_cons (pv 1) pa_nil))))))
 pss_nil)
 (pss_one (ps_if (pt_val (pe_callB call_isi (by rfl) T.isinstance (by decide +kernel) (pa_cons (pv 0) (pa_cons (pe_bltn (v := .ty "list") (u := .type "list") (by rfl) T.list (by decide +kernel) rfl) pa_nil))))
 (pss_one (ps_expr (pe_bm PySem.F.plainAttrs_list PySem.F.slot_list_append PySem.F.type_list_append mt_append (pv 0) (pa_cons pe_str pa_nil))))
 pss_nil))), ?_⟩
    refine ⟨_, rfl, by show 2 ≤ sizeLine; decide, fun p hp => ?_⟩
    have s1 : Same H (upd H p (.tup [.ty "list", .ty "tuple"])) := Same.new hp
    have hpt : upd H p (.tup [.ty "list", .ty "tuple"]) p = some (.tup [.ty "list", .ty "tuple"]) := upd_same
    generalize upd H p (.tup [.ty "list", .ty "tuple"]) = H1 at s1 hpt ⊢
    have hl1 := s1 _ _ hl
    refine ⟨_, p, _, _, _, true, rfl, hpt, .cons (.ty _) (.cons (.ty _) .nil), tyL (SqL.of hl1), kit2 (a := "list") (b := "list") (c := "tuple") (r := true) (s := false) (by decide +kernel) (by decide +kernel), _, rfl, iteT ?_⟩
    refine .inl ⟨_, rfl, l, rfl, ⟨_, SqL.of hl1⟩, for_it walk_list (fun i σ' H' => ∃ x, σ' = [some (.ref l), x] ∧ ButA as H1 H' ∧ ∀ a ∈ as, BdT (2 + i) H' a) ⟨_, rfl, fun b u e _ => e, fun a m => (hB a m).up s1⟩ (fun i σ' H' _ ⟨_, _, z, _⟩ => SqL.of (z _ _ hl1 nl)) ?_ ?_⟩
    · rintro i x σ' H' H'' hi ⟨x0, rfl, s2, hb⟩ ⟨rfl, hv⟩
      rw [List.length_map] at hi
      have ev : x = .ref as[i] := by
        rw [List.getElem?_map, List.getElem?_eq_getElem hi] at hv
        exact (Option.some.inj hv).symm
      subst ev
      refine ⟨_, rfl, as[i], 2 + i, rfl, by omega, hb _ (List.getElem_mem hi), fun H3 s3 b3 => ⟨_, rfl, fun b u e ne => s3 _ _ (s2 _ _ e ne) (fun z => ne (by rw [z]; exact List.getElem_mem hi)), fun a m => ?_⟩⟩
      by_cases e : a = as[i]
      · rw [e]; exact b3
      · exact ((hb a m).but s3 e).mono (by omega)
    · rintro σ' H' ⟨x, rfl, s2, _⟩
      have hl2 := s2 _ _ hl1 nl
      refine ⟨_, rfl, _, _, .type "list", _, true, rfl, .ty _, tyL (SqL.of hl2), kit_ty (by decide +kernel), _, rfl, iteT ?_⟩
      refine ⟨_, rfl, .inl ⟨rfl, _, SqL.of hl2⟩, _, _, _, rfl, rfl, hl2, by rw [List.length_map]; exact Nat.lt_of_le_of_lt hn (by decide), ?_⟩
      refine k _ fun b u e ne => ?_
      rw [upd_ne fun z => ne (by rw [z]; exact List.mem_cons_self ..)]
      exact s2 _ _ (s1 _ _ e) fun z => ne (List.mem_cons_of_mem _ z)
/-! ### the law's own sum -/
theorem sum_snoc (f : Str → Int) (xs : List Str) (x : Str) : ((xs ++ [x]).map f).sum = (xs.map f).sum + f x := by rw [List.map_append, List.sum_append]; simp
theorem sum_rev (f : Str → Int) : ∀ xs : List Str, (xs.reverse.map f).sum = (xs.map f).sum
  | [] => rfl
  | x :: xs => by rw [List.reverse_cons, sum_snoc, sum_rev f xs, List.map_cons, List.sum_cons]; omega
def spSum (K : PySem.W.Frag) : Sp := fun vs H Q _ => ∃ (d : Addr) (kvs : List (Key × V)) (ns : List Str) (hk : Str → Str) (wt : Str → Int) (n : Str) (ws : List Str), vs = [.ref d, .str n] ∧ H d = some (.dK kvs) ∧ Pr2 K H ns (fun n => .str (hk n)) (fun n => .int (wt n)) kvs ∧ ns.Nodup ∧ n ∈ ns ∧ n ≠ "clock" ∧ Way (rowsF ns hk) n ws ∧ (∀ w ∈ ws, w ∈ ns) ∧
  Q (.int (wt n + (ws.reverse.map wt).sum)) H
theorem ok_sum (T : Txt K mg A) : FnOk P w K mg base CX0 1 A.a__law_sum A.d__law_sum P__law_sum (spSum K) := by
  refine T.f__law_sum.ok sc__law_sum (fun vs H Q E h => ?_) (fun cdv A' outer s H vs Q E hr h => ?_)
  · obtain ⟨d, kvs, ns, hk, wt, n, ws, rfl, _⟩ := h
    rfl
  · obtain ⟨d, kvs, ns, hk, wt, n, ws, rfl, hd, hP, nd, hm, nc, ⟨h0, hm0, pa, hl⟩, hws, k⟩ := h
    refine ⟨_, (pss_cons (ps_par (i := 2) (j := 3) (by rfl) sc__law_sum.nd rfl rfl (by decide) rfl rfl (pa_cons pe_int (pa_cons (pv 1) pa_nil)) (by rfl))
 (pss_cons (ps_while PassesOwn.never (pt_cmpR op_ne (pv 3) pe_str (nomark _))
 (pss_one (ps_par (i := 2) (j := 3) (by rfl) sc__law_sum.nd rfl rfl (by decide) rfl rfl (pa_cons (pe_op op_add (pv 2) (pe_ix ix_tup (pe_dget (hu_of hr) (pv 0) (pv 3) (fun _ _ => rfl)) pe_int (fun _ _ => rfl))) (pa_cons (pe_ix ix_tup (pe_dget (hu_of hr) (pv 0) (pv 3) (fun _ _ => rfl)) pe_int (fun _ _ => rfl)) pa_nil)) (by rfl))))
 (pss_one (ps_ret (pv 2))))), ?_⟩
    refine ⟨_, rfl, _, _, rfl, ?_⟩
    refine while_ex (fun mm σ' H' => ∃ (as bs : List Str) (x : Str), σ' = [some (.ref d), some (.str n), some (.int (as.map wt).sum), some (.str x)] ∧ H' = H ∧ as ++ bs = n :: ws ∧ Path (rowsF ns hk) x bs ∧ mm = bs.length)
        (fun σ' H' => ∃ (u : V), σ' = [some (.ref d), some (.str n), some (.int ((n :: ws).map wt).sum), some u] ∧ H' = H)
        ⟨[], n :: ws, n, rfl, rfl, rfl, .step nc hm0 pa, rfl⟩ (fun nx hnx => ?_) ?_
    · rintro mm σ' H' ⟨as, bs, x, rfl, rfl, hab, pb, rfl⟩
      refine ⟨_, rfl, rfl, _, rfl, ite2 (fun c1 => ?_) (fun c1 => ?_)⟩
      · cases pb with
        | clock => cases c1
        | @step _ h2 bs' ne m2 r =>
          refine ⟨_, fun _ _ z => z, ?_⟩
          obtain ⟨m3, e2⟩ := of_mem_F m2
          obtain ⟨a, hv, hq⟩ := hP.val nd m3
          subst e2
          refine ⟨_, rfl, _, rfl, _, rfl, d, .ref a, rfl, .inl ⟨kvs, .inr x, .inl hd, rfl, hv.symm⟩, _, _, _, _, rfl, rfl, hq, rfl, _, _, rfl, rfl, _, rfl, _, rfl, d, .ref a, rfl, .inl ⟨kvs, .inr x, .inl hd, rfl, hv.symm⟩, _, _, _, _, rfl, rfl, hq, rfl, _, _, rfl, ?_⟩
          exact ⟨bs'.length, Nat.lt_succ_self _, as ++ [x], bs', hk x, by rw [sum_snoc]; rfl, rfl, by rw [List.append_assoc]; exact hab, r, rfl⟩
      · cases pb with
        | clock =>
          rw [List.append_nil] at hab
          subst hab
          exact hnx _ _ ⟨_, rfl, rfl⟩
        | step ne m2 r => exact absurd (by rw [decide_eq_false (fun z => ne (V.str.inj z))]; rfl) c1
    · rintro σ' H' ⟨u, rfl, rfl⟩
      rw [sum_rev] at k
      exact ⟨_, rfl, k⟩
end
end K5
set_option Elab.async false
set_option linter.all false
set_option maxRecDepth 100000
set_option maxHeartbeats 4000000
namespace K5
open PySem L2
local macro_rules | `(tactic| walk_at "rd1") => `(tactic| first
  | refine ⟨_, _, rfl, rfl, ?_⟩
  | refine ⟨_, _, _, _, rfl, rfl, SqL.of (by assumption), rfl, ?_⟩
  | refine ⟨_, _, _, _, rfl, rfl, (by assumption), rfl, ?_⟩
  | refine .inl ⟨_, rfl, ?_⟩
  | refine ⟨_, rfl, ?_⟩
  | refine ⟨(by unfold CMul; omega), ?_⟩
  | refine ⟨(by unfold CPow; omega), ?_⟩
  | refine ⟨(by (try dsimp only); omega), ?_⟩
  | refine ⟨(by unfold CDiv; omega), ?_⟩
  | fail "rd1")
local macro_rules | `(tactic| walk_at "rd") => `(tactic| repeat' (walk_at "rd1"))
section
variable {P : Program} {w : World} {K : PySem.W.Frag} {mg : Str → Option Value} {base : Heap} {A : Ad}

theorem eqv_strs_refl (ss : List Str) : PyData.eqv (.list (ss.map PyData.str)) (.list (ss.map PyData.str)) = true := by
  have h : ∀ ss : List Str, PyData.eqvAll (ss.map PyData.str) (ss.map PyData.str) = true := fun ss => by
    induction ss with
    | nil => simp [PyData.eqvAll]
    | cons s ss ih => simp [PyData.eqvAll, PyData.eqv, ih]
  simp [PyData.eqv, h]
theorem keys_str {kvs : List (Key × V)} {ys : List Str} (h : kvs.map (·.1) = ys.map Sum.inr) : (kvs.map fun kv => kV kv.1) = ys.map V.str := by
  have e : (kvs.map fun kv => kV kv.1) = (kvs.map (·.1)).map kV := by rw [List.map_map]; rfl
  rw [e, h, List.map_map]; rfl
/-! ### dicts of what dishes hang on, with waits -/
def spSamePr (K : PySem.W.Frag) : Sp := fun vs H Q _ => ∃ (a b : Addr) (ys : List Str) (hk : Str → Str) (wt : Str → Int) (ka kb : List (Key × V)), vs = [.ref a, .ref b] ∧ H a = some (.dK ka) ∧ H b = some (.dK kb) ∧ Pr2 K H ys (fun n => .str (hk n)) (fun n => .int (wt n)) ka ∧ Pr2 K H ys (fun n => .str (hk n)) (fun n => .int (wt n)) kb ∧
  ys.Nodup ∧ ys.length < 64 ∧ (∀ s ∈ ys, PyData.strOk s = true) ∧ ∀ H', Same H H' → Q (.bl true) H'
theorem ok_samepr (T : Txt K mg A) : FnOk P w K mg base CX0 3 A.a__law_same_dict A.d__law_same_dict P__law_same_dict (spSamePr K) := by
  have G__law_same : FnOk P w K mg base CX0 2 A.a__law_same A.d__law_same P__law_same (spSame K 2) := ok_same T 2
  refine T.f__law_same_dict.ok sc__law_same_dict (fun vs H Q E h => ?_) (fun cdv A' outer s H vs Q E hr h => ?_)
  · obtain ⟨a, b, ys, hk, wt, ka, kb, rfl, _⟩ := h
    rfl
  · obtain ⟨a, b, ys, hk, wt, ka, kb, rfl, ha, hb, hPa, hPb, nd, hl, hok, k⟩ := h
    refine ⟨_, (pss_cons (ps_if (PW.pt (pw_or (pt_not (pt_val (pe_callB call_isi (by rfl) T.isinstance (by decide +kernel) (pa_cons (pv 0) (pa_cons (pe_bltn (v := .ty "dict") (u := .type "dict") (by rfl) T.dict (by decide +kernel) rfl) pa_nil))))) (pw_or1 (pt_cmpR (op_neD hr.units) (pe_callTy (call_listD rfl) (by rfl) T.list (by decide +kernel) (pa_cons (pv 0) pa_nil)) (pe_callTy (call_listD rfl) (by rfl) T.list (by decide +kernel) (pa_cons (pv 1) pa_nil)) (nomark _)))))
 (pss_one (ps_ret pe_bl))
 pss_nil)
 (pss_one (ps_ret (pe_lock (pe_callB (cr_all rfl) (by rfl) T.all (by decide +kernel) (pa_cons (pe_lc (own := [("_law_key", 2)]) (g := gName 2) (by rfl) sc__law_same_dict.nd (pi_keys (pv 1)) (blkOk_by (N := N__law_same_dict) (sc := defScope s__law_same_dict) (by decide +kernel)) (fun _ _ _ _ _ => pg_name (i := 2) sc__law_same_dict.nd rfl (Or.inl rfl)) (fun _ _ _ _ _ => pts_nil) (fun _ _ _ _ _ => (pe_call G__law_same (hr.mono (by omega)) (by rfl) T.g__law_same T.f__law_same.kp T.b__law_same .nil pass0 (pa_cons (pe_dget (hu_of hr) (pv 0) (pv 2) (fun _ _ => rfl)) (pa_cons (pe_dget (hu_of hr) (pv 1) (pv 2) (fun _ _ => rfl)) pa_nil))))) pa_nil)))))), ?_⟩
    refine ⟨_, rfl, _, _, .type "dict", _, true, rfl, .ty _, .base (.dK ha), kit_ty (by decide +kernel), _, rfl, iteF ?_⟩
    refine ⟨_, rfl, a, _, rfl, .inl ha, fun l nl => ?_⟩
    have s1 : Same H (upd H l (.lst (ka.map fun kv => kV kv.1))) := Same.new nl
    refine ⟨_, rfl, b, _, rfl, .inl (s1 _ _ hb), fun m nm => ?_⟩
    have s2 : Same H (upd (upd H l (.lst (ka.map fun kv => kV kv.1))) m (.lst (kb.map fun kv => kV kv.1))) := s1.trans (Same.new nm)
    have h1 : upd (upd H l (.lst (ka.map fun kv => kV kv.1))) m (.lst (kb.map fun kv => kV kv.1)) l = some (.lst (ys.map V.str)) := by rw [← keys_str hPa.keys]; exact Same.new nm _ _ upd_same
    have h2 : upd (upd H l (.lst (ka.map fun kv => kV kv.1))) m (.lst (kb.map fun kv => kV kv.1)) m = some (.lst (ys.map V.str)) := by rw [← keys_str hPb.keys]; exact upd_same
    generalize upd (upd H l (.lst (ka.map fun kv => kV kv.1))) m (.lst (kb.map fun kv => kV kv.1)) = H2 at s2 h1 h2 ⊢
    refine ⟨.list (ys.map PyData.str), .list (ys.map PyData.str), .lst (SqL.of h1) (dpStrs _), .lst (SqL.of h2) (dpStrs _), strs_shaped hok, strs_shaped hok, _, rfl, ?_⟩
    rw [eqv_strs_refl]
    refine iteF ?_
    refine ⟨b, _, s2 _ _ hb, trivial, fun od => ?_⟩
    have hPa2 : Pr2 K (upd H2 b (.frz od (.dK kb))) ys (fun n => .str (hk n)) (fun n => .int (wt n)) ka := (hPa.up s2).set (s2 _ _ hb) (noTup_dK _)
    have hPb2 : Pr2 K (upd H2 b (.frz od (.dK kb))) ys (fun n => .str (hk n)) (fun n => .int (wt n)) kb := (hPb.up s2).set (s2 _ _ hb) (noTup_dK _)
    have ha2 : Rd (upd H2 b (.frz od (.dK kb))) a (.dK ka) := by
      by_cases e : a = b
      · subst e
        rw [ha] at hb
        rw [HO.dK.inj (Option.some.inj hb)]
        exact .inr ⟨od, upd_same⟩
      · exact .inl (by rw [upd_ne e]; exact s2 _ _ ha)
    have hb2 : upd H2 b (.frz od (.dK kb)) b = some (.frz od (.dK kb)) := upd_same
    refine ⟨_, rfl, b, od, rfl, .inl ⟨kb, upd_same, fun D hD => lc_it walk_keys (fun i H' => Same (upd H2 b (.frz od (.dK kb))) H' ∧ H' D = some (.lst ((List.replicate i true).map V.bl))) ⟨Same.new hD, upd_same⟩ (fun i H' _ z => z.1 _ _ upd_same) ?_ (fun H' z => ?_)⟩⟩
    · rintro i x H' H'' hi ⟨s3, hD'⟩ ⟨rfl, key, v, hkv, rfl⟩
      obtain ⟨hi1, a0, rfl, rfl, _⟩ := hPb2.get hkv
      have hm := List.getElem_mem hi1
      obtain ⟨a1, hv1, hq1⟩ := hPa2.val nd hm
      obtain ⟨a2, hv2, hq2⟩ := hPb2.val nd hm
      have dp : ∀ (a : Addr), SqT K H'' a [.str (hk ys[i]), .int (wt ys[i])] → Dp K H'' (.ref a) (.tuple [.str (hk ys[i]), .int (wt ys[i])]) := fun a h => .tup h (.cons (.str _) (.cons (.int _) .nil))
      refine ⟨rfl, _, rfl, _, rfl, a, .ref a1, rfl, .inl ⟨ka, .inr ys[i], rdUp ha2 s3, rfl, hv1.symm⟩, _, rfl, _, rfl, b, .ref a2, rfl, .inl ⟨kb, .inr ys[i], .inr ⟨od, s3 _ _ hb2⟩, rfl, hv2.symm⟩, _, _, _, rfl, dp _ (stUp hq1 s3), dp _ (stUp hq2 s3), by show PyData.depth (.tuple _) < 2; simp [PyData.depth, PyData.depthAll], rfl, fun H3 s4 => ?_⟩
      refine ⟨_, s4 _ _ hD', by rw [List.length_map, List.length_replicate]; rw [hPb.len] at hi; exact Nat.lt_of_lt_of_le (show i < 64 by omega) (by decide), ?_, ?_⟩
      · exact fun b u e => by rw [upd_ne (ne_of_none e hD)]; exact s4 _ _ (s3 _ _ e)
      · rw [upd_same, List.replicate_succ', List.map_append]; rfl
    · obtain ⟨s3, hD'⟩ := z
      refine ⟨D, _, rfl, SqL.of hD', s3 _ _ hb2, ?_⟩
      rw [all_true]
      refine k _ fun x u e => ?_
      by_cases hx : x = b
      · subst hx; rw [hb] at e; cases e; exact upd_same
      · rw [upd_ne hx]; exact s3 _ _ (by rw [upd_ne hx]; exact s2 _ _ e)
theorem fnOr {CX : CXT} {k : Nat} {f : Addr} {fd : FuncData} {ps : List Str} {sp1 sp2 : Sp} (F1 : FnOk P w K mg base CX k f fd ps sp1) (F2 : FnOk P w K mg base CX k f fd ps sp2) : FnOk P w K mg base CX k f fd ps (fun vs H Q E => sp1 vs H Q E ∨ sp2 vs H Q E) :=
  ⟨fun vs H Q E h => h.elim (F1.len vs H Q E) (F2.len vs H Q E), fun A outer s H args us vs Q E hr e b v h => h.elim (F1.run A outer s H args us vs Q E hr e b v) (F2.run A outer s H args us vs Q E hr e b v)⟩
theorem sd_symm {n : Nat} {H : Hp} {x y : V} (h : SD K n H x y) : SD K n H y x :=
  h.elim (fun ⟨d, a, b, c⟩ => .inl ⟨d, b, a, c⟩) fun ⟨a, b, e1, e2, h1, h2⟩ => .inr ⟨b, a, e2, e1, h2, h1⟩
theorem sd_up {n : Nat} {H H' : Hp} {x y : V} (h : SD K n H x y) (s : Same H H') : SD K n H' x y :=
  h.elim (fun ⟨d, a, b, c⟩ => .inl ⟨d, dpSame s a, dpSame s b, c⟩) fun ⟨a, b, e1, e2, h1, h2⟩ => .inr ⟨a, b, e1, e2, s _ _ h1, s _ _ h2⟩
def spEmp : Sp := fun vs H Q _ => ∃ (a b : Addr), vs = [.ref a, .ref b] ∧ H a = some (.dK []) ∧ H b = some (.dK []) ∧ ∀ H', Same H H' → Q (.bl true) H'
theorem ok_emp (T : Txt K mg A) : FnOk P w K mg base CX0 1 A.a__law_same A.d__law_same P__law_same spEmp := by
  have G__law_same : FnOk P w K mg base CX0 0 A.a__law_same A.d__law_same P__law_same (fun _ _ _ _ => False) := no_fn fun _ _ _ _ h => h
  refine T.f__law_same.ok sc__law_same (fun vs H Q E h => ?_) (fun cdv A' outer s H vs Q E hr h => ?_)
  · obtain ⟨a, b, rfl, _⟩ := h
    rfl
  · obtain ⟨a, b, rfl, ha, hb, k⟩ := h
    refine ⟨_, (pss_cons (ps_if (pt_val (pe_callB call_isiT (by rfl) T.isinstance (by decide +kernel) (pa_cons (pv 1) (pa_cons (pe_tup (pa_cons (pe_bltn (v := .ty "list") (u := .type "list") (by rfl) T.list (by decide +kernel) rfl) (pa_cons (pe_bltn (v := .ty "tuple") (u := .type "tuple") (by rfl) T.tuple (by decide +kernel) rfl) pa_nil))) pa_nil))))
 (pss_cons (ps_if (PW.pt (pw_or (pt_cmpR op_ne (pe_callB call_isi (by rfl) T.isinstance (by decide +kernel) (pa_cons (pv 0) (pa_cons (pe_bltn (v := .ty "list") (u := .type "list") (by rfl) T.list (by decide +kernel) rfl) pa_nil))) (pe_callB call_isi (by rfl) T.isinstance (by decide +kernel) (pa_cons (pv 1) (pa_cons (pe_bltn (v := .ty "list") (u := .type "list") (by rfl) T.list (by decide +kernel) rfl) pa_nil))) (nomark _)) (pw_or1 (pt_cmpR op_ne (pe_callB call_isi (by rfl) T.isinstance (by decide +kernel) (pa_cons (pv 0) (pa_cons (pe_bltn (v := .ty "tuple") (u := .type "tuple") (by rfl) T.tuple (by decide +kernel) rfl) pa_nil))) (pe_callB call_isi (by rfl) T.isinstance (by decide +kernel) (pa_cons (pv 1) (pa_cons (pe_bltn (v := .ty "tuple") (u := .type "tuple") (by rfl) T.tuple (by decide +kernel) rfl) pa_nil))) (nomark _)))))
 (pss_one (ps_ret pe_bl))
 pss_nil)
 (pss_one (ps_ret (pe_and (pe_cmpR op_eq (pe_callB call_len_seq (by rfl) T.len PySem.boot_len (pa_cons (pv 0) pa_nil)) (pe_callB call_len_seq (by rfl) T.len PySem.boot_len (pa_cons (pv 1) pa_nil)) (nomark _)) (pe_one (pe_callB (cr_all rfl) (by rfl) T.all (by decide +kernel) (pa_cons (pe_lc (own := [("_law_x", 2), ("_law_y", 3)]) (g := gTup K 2 (gCons (gName 2) (gCons (gName 3) gNil))) (by rfl) sc__law_same.nd (RZ.pi_zipA (by rfl) T.zip (pa_cons (pv 0) (pa_cons (pv 1) pa_nil))) (blkOk_by (N := N__law_same) (sc := defScope s__law_same) (by decide +kernel)) (fun _ _ _ _ _ => (pg_tup rfl (pgs_cons (pg_name (i := 2) sc__law_same.nd rfl (Or.inl rfl)) (pgs_cons (pg_name (i := 3) sc__law_same.nd rfl (Or.inl rfl)) pgs_nil)))) (fun _ _ _ _ _ => pts_nil) (fun _ _ _ _ _ => (pe_call G__law_same (hr.mono (by omega)) (by rfl) T.g__law_same T.f__law_same.kp T.b__law_same .nil pass0 (pa_cons (pv 2) (pa_cons (pv 3) pa_nil))))) pa_nil)))))))
 pss_nil)
 (pss_cons (ps_if (pt_val (pe_callB call_isi (by rfl) T.isinstance (by decide +kernel) (pa_cons (pv 1) (pa_cons (pe_bltn (v := .ty "int") (u := .type "int") (by rfl) T.int (by decide +kernel) rfl) pa_nil))))
 (pss_one (ps_ret (pe_and (pe_callB call_isi (by rfl) T.isinstance (by decide +kernel) (pa_cons (pv 0) (pa_cons (pe_bltn (v := .ty "int") (u := .type "int") (by rfl) T.int (by decide +kernel) rfl) pa_nil))) (pe_and (pe_cmpR op_eq (pe_callB call_isi (by rfl) T.isinstance (by decide +kernel) (pa_cons (pv 0) (pa_cons (pe_bltn (v := .ty "bool") (u := .type "bool") (by rfl) T.bool (by decide +kernel) rfl) pa_nil))) (pe_callB call_isi (by rfl) T.isinstance (by decide +kernel) (pa_cons (pv 1) (pa_cons (pe_bltn (v := .ty "bool") (u := .type "bool") (by rfl) T.bool (by decide +kernel) rfl) pa_nil))) (nomark _)) (pe_one (pe_cmpR (Own.op_eqDF hr.units) (pv 0) (pv 1) (nomark _)))))))
 pss_nil)
 (pss_one (ps_ret (pe_and (pe_cmpR op_isBl (pe_callB call_isiT (by rfl) T.isinstance (by decide +kernel) (pa_cons (pv 0) (pa_cons (pe_tup (pa_cons (pe_bltn (v := .ty "int") (u := .type "int") (by rfl) T.int (by decide +kernel) rfl) (pa_cons (pe_bltn (v := .ty "list") (u := .type "list") (by rfl) T.list (by decide +kernel) rfl) (pa_cons (pe_bltn (v := .ty "tuple") (u := .type "tuple") (by rfl) T.tuple (by decide +kernel) rfl) pa_nil)))) pa_nil))) pe_bl (nomark _)) (pe_one (pe_cmpR (Own.op_eqDF hr.units) (pv 0) (pv 1) (nomark _)))))))), ?_⟩
    refine ⟨_, rfl, by show 2 ≤ sizeLine; decide, fun p hp => ?_⟩
    have s1 : Same H (upd H p (.tup [.ty "list", .ty "tuple"])) := Same.new hp
    refine ⟨_, p, _, _, _, false, rfl, upd_same, .cons (.ty _) (.cons (.ty _) .nil), .base (.dK (s1 _ _ hb)), kit2 (a := "dict") (b := "list") (c := "tuple") (r := false) (s := false) (by decide +kernel) (by decide +kernel), _, rfl, iteF ?_⟩
    refine ⟨_, rfl, _, _, .type "dict", _, false, rfl, .ty _, .base (.dK (s1 _ _ hb)), kit_ty (by decide +kernel), _, rfl, iteF ?_⟩
    refine ⟨_, rfl, by show 3 ≤ sizeLine; decide, fun q hq => ?_⟩
    have s2 := s1.trans (Same.new (o := .tup [.ty "int", .ty "list", .ty "tuple"]) hq)
    refine ⟨_, q, _, _, _, false, rfl, upd_same, .cons (.ty _) (.cons (.ty _) (.cons (.ty _) .nil)), .base (.dK (s2 _ _ ha)), kit3 (a := "dict") (b := "int") (c := "list") (d := "tuple") (r := false) (s := false) (t := false) (by decide +kernel) (by decide +kernel) (by decide +kernel), _, _, rfl, rfl, _, rfl, iteT ⟨_, rfl, _, rfl, a, b, [], [], rfl, rfl, s2 _ _ ha, s2 _ _ hb, (by intro _ m; cases m), (by intro _ _ m; cases m), k _ s2⟩⟩
def spSX (K : PySem.W.Frag) (n : Nat) : Sp := fun vs H Q _ => ∃ (x y : V), vs = [x, y] ∧ SD K n H x y ∧ ∀ H', Same H H' → Q (.bl true) H'
theorem ok_sx (T : Txt K mg A) (n : Nat) : FnOk P w K mg base CX0 (n + 1) A.a__law_same A.d__law_same P__law_same (spSX K (n + 1)) :=
  (fnOr (ok_same T (n + 1)) ((ok_emp T).mono (by omega))).imp fun vs H Q E ⟨x, y, e, h, k⟩ => h.elim (fun ⟨d, a, b, c, d2⟩ => .inl ⟨x, y, d, e, a, b, c, d2, k⟩) fun ⟨a, b, e1, e2, h1, h2⟩ => .inr ⟨a, b, by rw [e, e1, e2], h1, h2, k⟩
/-- two pairs, the second things of which are the same -/
def spPair (K : PySem.W.Frag) (n : Nat) : Sp := fun vs H Q _ => ∃ (t1 t2 : Addr) (x y : V) (z : Str), vs = [.ref t1, .ref t2] ∧ H t1 = some (.tup [.str z, x]) ∧ H t2 = some (.tup [.str z, y]) ∧ SD K n H x y ∧ ∀ H', Same H H' → Q (.bl true) H'
theorem ok_pair (T : Txt K mg A) (n : Nat) : FnOk P w K mg base CX0 (n + 2) A.a__law_same A.d__law_same P__law_same (spPair K (n + 1)) := by
  have G__law_same : FnOk P w K mg base CX0 (n + 1) A.a__law_same A.d__law_same P__law_same (spSX K (n + 1)) := ok_sx T n
  refine T.f__law_same.ok sc__law_same (fun vs H Q E h => ?_) (fun cdv A' outer s H vs Q E hr h => ?_)
  · obtain ⟨t1, t2, x, y, z, rfl, _⟩ := h
    rfl
  · obtain ⟨t1, t2, x, y, z, rfl, h1, h2, hs, k⟩ := h
    refine ⟨_, (pss_cons (ps_if (pt_val (pe_callB call_isiT (by rfl) T.isinstance (by decide +kernel) (pa_cons (pv 1) (pa_cons (pe_tup (pa_cons (pe_bltn (v := .ty "list") (u := .type "list") (by rfl) T.list (by decide +kernel) rfl) (pa_cons (pe_bltn (v := .ty "tuple") (u := .type "tuple") (by rfl) T.tuple (by decide +kernel) rfl) pa_nil))) pa_nil))))
 (pss_cons (ps_if (PW.pt (pw_or (pt_cmpR op_ne (pe_callB call_isi (by rfl) T.isinstance (by decide +kernel) (pa_cons (pv 0) (pa_cons (pe_bltn (v := .ty "list") (u := .type "list") (by rfl) T.list (by decide +kernel) rfl) pa_nil))) (pe_callB call_isi (by rfl) T.isinstance (by decide +kernel) (pa_cons (pv 1) (pa_cons (pe_bltn (v := .ty "list") (u := .type "list") (by rfl) T.list (by decide +kernel) rfl) pa_nil))) (nomark _)) (pw_or1 (pt_cmpR op_ne (pe_callB call_isi (by rfl) T.isinstance (by decide +kernel) (pa_cons (pv 0) (pa_cons (pe_bltn (v := .ty "tuple") (u := .type "tuple") (by rfl) T.tuple (by decide +kernel) rfl) pa_nil))) (pe_callB call_isi (by rfl) T.isinstance (by decide +kernel) (pa_cons (pv 1) (pa_cons (pe_bltn (v := .ty "tuple") (u := .type "tuple") (by rfl) T.tuple (by decide +kernel) rfl) pa_nil))) (nomark _)))))
 (pss_one (ps_ret pe_bl))
 pss_nil)
 (pss_one (ps_ret (pe_and (pe_cmpR op_eq (pe_callB call_len_seq (by rfl) T.len PySem.boot_len (pa_cons (pv 0) pa_nil)) (pe_callB call_len_seq (by rfl) T.len PySem.boot_len (pa_cons (pv 1) pa_nil)) (nomark _)) (pe_one (pe_callB (cr_all rfl) (by rfl) T.all (by decide +kernel) (pa_cons (pe_lc (own := [("_law_x", 2), ("_law_y", 3)]) (g := gTup K 2 (gCons (gName 2) (gCons (gName 3) gNil))) (by rfl) sc__law_same.nd (RZ.pi_zipA (by rfl) T.zip (pa_cons (pv 0) (pa_cons (pv 1) pa_nil))) (blkOk_by (N := N__law_same) (sc := defScope s__law_same) (by decide +kernel)) (fun _ _ _ _ _ => (pg_tup rfl (pgs_cons (pg_name (i := 2) sc__law_same.nd rfl (Or.inl rfl)) (pgs_cons (pg_name (i := 3) sc__law_same.nd rfl (Or.inl rfl)) pgs_nil)))) (fun _ _ _ _ _ => pts_nil) (fun _ _ _ _ _ => (pe_call G__law_same (hr.mono (by omega)) (by rfl) T.g__law_same T.f__law_same.kp T.b__law_same .nil pass0 (pa_cons (pv 2) (pa_cons (pv 3) pa_nil))))) pa_nil)))))))
 pss_nil)
 (pss_cons (ps_if (pt_val (pe_callB call_isi (by rfl) T.isinstance (by decide +kernel) (pa_cons (pv 1) (pa_cons (pe_bltn (v := .ty "int") (u := .type "int") (by rfl) T.int (by decide +kernel) rfl) pa_nil))))
 (pss_one (ps_ret (pe_and (pe_callB call_isi (by rfl) T.isinstance (by decide +kernel) (pa_cons (pv 0) (pa_cons (pe_bltn (v := .ty "int") (u := .type "int") (by rfl) T.int (by decide +kernel) rfl) pa_nil))) (pe_and (pe_cmpR op_eq (pe_callB call_isi (by rfl) T.isinstance (by decide +kernel) (pa_cons (pv 0) (pa_cons (pe_bltn (v := .ty "bool") (u := .type "bool") (by rfl) T.bool (by decide +kernel) rfl) pa_nil))) (pe_callB call_isi (by rfl) T.isinstance (by decide +kernel) (pa_cons (pv 1) (pa_cons (pe_bltn (v := .ty "bool") (u := .type "bool") (by rfl) T.bool (by decide +kernel) rfl) pa_nil))) (nomark _)) (pe_one (pe_cmpR op_eq (pv 0) (pv 1) (nomark _)))))))
 pss_nil)
 (pss_one (ps_ret (pe_and (pe_cmpR op_isBl (pe_callB call_isiT (by rfl) T.isinstance (by decide +kernel) (pa_cons (pv 0) (pa_cons (pe_tup (pa_cons (pe_bltn (v := .ty "int") (u := .type "int") (by rfl) T.int (by decide +kernel) rfl) (pa_cons (pe_bltn (v := .ty "list") (u := .type "list") (by rfl) T.list (by decide +kernel) rfl) (pa_cons (pe_bltn (v := .ty "tuple") (u := .type "tuple") (by rfl) T.tuple (by decide +kernel) rfl) pa_nil)))) pa_nil))) pe_bl (nomark _)) (pe_one (pe_cmpR op_eq (pv 0) (pv 1) (nomark _)))))))), ?_⟩
    refine ⟨_, rfl, by show 2 ≤ sizeLine; decide, fun p hp => ?_⟩
    have s1 : Same H (upd H p (.tup [.ty "list", .ty "tuple"])) := Same.new hp
    have a1 := s1 _ _ h1
    have a2 := s1 _ _ h2
    have hs1 := sd_up hs s1
    have hpt : upd H p (.tup [.ty "list", .ty "tuple"]) p = some (.tup [.ty "list", .ty "tuple"]) := upd_same
    generalize upd H p (.tup [.ty "list", .ty "tuple"]) = H1 at s1 a1 a2 hs1 hpt ⊢
    have t1' := tyT (SqT.of (K := K) a1)
    have t2' := tyT (SqT.of (K := K) a2)
    refine ⟨_, p, _, _, _, true, rfl, hpt, .cons (.ty _) (.cons (.ty _) .nil), t2', kit2 (a := "tuple") (b := "list") (c := "tuple") (r := false) (s := true) (by decide +kernel) (by decide +kernel), _, rfl, iteT ?_⟩
    refine ⟨_, rfl, _, _, .type "tuple", _, false, rfl, .ty _, t1', kit_ty (by decide +kernel), _, rfl, _, _, .type "tuple", _, false, rfl, .ty _, t2', kit_ty (by decide +kernel), rfl, _, rfl, iteF ?_⟩
    refine ⟨_, rfl, _, _, .type "tuple", _, true, rfl, .ty _, t1', kit_ty (by decide +kernel), _, rfl, _, _, .type "tuple", _, true, rfl, .ty _, t2', kit_ty (by decide +kernel), rfl, _, rfl, iteF ?_⟩
    refine ⟨_, rfl, _, _, rfl, .inr (SqT.of a1), _, rfl, _, _, rfl, .inr (SqT.of a2), rfl, true, rfl, iteT ?_⟩
    refine ⟨_, rfl, _, rfl, _, _, _, _, rfl, .inr ⟨SqT.of a1, SqT.of a2, fun D hD => lc_it (walk_zipT (n := 2) rfl) (fun i H' => Same H1 H' ∧ H' D = some (.lst ((List.replicate i true).map V.bl))) ⟨Same.new hD, upd_same⟩ (fun i H' _ q => ⟨SqT.of (q.1 _ _ a1), SqT.of (q.1 _ _ a2)⟩) ?_ (fun H' q => ?_)⟩⟩
    · rintro i v H' H'' hi ⟨s2, hD'⟩ ⟨T, u, w', rfl, hT, rfl, hx', hy'⟩
      have s3 := s2.trans (Same.new (o := .tup [u, w']) hT)
      have sd : SD K (n + 1) (upd H' T (.tup [u, w'])) u w' := by
        rcases i with _ | _ | i
        · cases hx'
          cases hy'
          exact .inl ⟨.str z, .str z, .str z, by simp [PyData.depth], rfl⟩
        · cases hx'
          cases hy'
          exact sd_up hs1 s3
        · omega
      refine ⟨T, [u, w'], rfl, SqT.of upd_same, rfl, _, _, rfl, _, _, rfl, rfl, rfl, ?_⟩
      refine ⟨_, rfl, _, rfl, u, w', rfl, sd, fun H3 s4 => ?_⟩
      have hD3 : H3 D = some (.lst ((List.replicate i true).map V.bl)) := s4 _ _ (Same.new hT _ _ hD')
      refine ⟨_, hD3, by rw [List.length_map, List.length_replicate]; exact Nat.lt_of_lt_of_le hi (by decide), ?_, ?_⟩
      · exact fun b o e => by rw [upd_ne (ne_of_none e hD)]; exact (s3.trans s4) _ _ e
      · rw [upd_same, List.replicate_succ', List.map_append]; rfl
    · refine ⟨D, _, rfl, SqL.of q.2, ?_⟩
      rw [all_true]
      exact k _ (s1.trans q.1)
/-- two pairs with the same first text, the second things of which are the same -/
def PrS (K : PySem.W.Frag) (n : Nat) (H : Hp) (a b : Addr) : Prop := ∃ (z : Str) (x y : V), H a = some (.tup [.str z, x]) ∧ H b = some (.tup [.str z, y]) ∧ SD K n H x y
theorem PrS.up {n : Nat} {H H' : Hp} {a b : Addr} (h : PrS K n H a b) (s : Same H H') : PrS K n H' a b := by
  obtain ⟨z, x, y, h1, h2, h3⟩ := h
  exact ⟨z, x, y, s _ _ h1, s _ _ h2, sd_up h3 s⟩
/-- two lists of such pairs -/
def spTri (K : PySem.W.Frag) (n : Nat) : Sp := fun vs H Q _ => ∃ (l m : Addr) (as bs : List Addr), vs = [.ref l, .ref m] ∧ SqL K H l (as.map V.ref) ∧ SqL K H m (bs.map V.ref) ∧ as.length = bs.length ∧ as.length ≤ 64 ∧
  (∀ (i : Nat) (a b : Addr), as[i]? = some a → bs[i]? = some b → PrS K n H a b) ∧ ∀ H', Same H H' → Q (.bl true) H'
theorem ref_at {as : List Addr} {i : Nat} {u : V} (h : (as.map V.ref)[i]? = some u) : ∃ a, as[i]? = some a ∧ u = .ref a := by
  rw [List.getElem?_map] at h
  cases e : as[i]? with
  | none => rw [e] at h; cases h
  | some a => rw [e] at h; exact ⟨a, rfl, (Option.some.inj h).symm⟩
theorem ok_tri (T : Txt K mg A) (n : Nat) : FnOk P w K mg base CX0 (n + 3) A.a__law_same A.d__law_same P__law_same (spTri K (n + 1)) := by
  have G__law_same : FnOk P w K mg base CX0 (n + 2) A.a__law_same A.d__law_same P__law_same (spPair K (n + 1)) := ok_pair T n
  refine T.f__law_same.ok sc__law_same (fun vs H Q E h => ?_) (fun cdv A' outer s H vs Q E hr h => ?_)
  · obtain ⟨l, m, as, bs, rfl, _⟩ := h
    rfl
  · obtain ⟨l, m, as, bs, rfl, h1, h2, hab, hl, hp, k⟩ := h
    refine ⟨_, (pss_cons (ps_if (pt_val (pe_callB call_isiT (by rfl) T.isinstance (by decide +kernel) (pa_cons (pv 1) (pa_cons (pe_tup (pa_cons (pe_bltn (v := .ty "list") (u := .type "list") (by rfl) T.list (by decide +kernel) rfl) (pa_cons (pe_bltn (v := .ty "tuple") (u := .type "tuple") (by rfl) T.tuple (by decide +kernel) rfl) pa_nil))) pa_nil))))
 (pss_cons (ps_if (PW.pt (pw_or (pt_cmpR op_ne (pe_callB call_isi (by rfl) T.isinstance (by decide +kernel) (pa_cons (pv 0) (pa_cons (pe_bltn (v := .ty "list") (u := .type "list") (by rfl) T.list (by decide +kernel) rfl) pa_nil))) (pe_callB call_isi (by rfl) T.isinstance (by decide +kernel) (pa_cons (pv 1) (pa_cons (pe_bltn (v := .ty "list") (u := .type "list") (by rfl) T.list (by decide +kernel) rfl) pa_nil))) (nomark _)) (pw_or1 (pt_cmpR op_ne (pe_callB call_isi (by rfl) T.isinstance (by decide +kernel) (pa_cons (pv 0) (pa_cons (pe_bltn (v := .ty "tuple") (u := .type "tuple") (by rfl) T.tuple (by decide +kernel) rfl) pa_nil))) (pe_callB call_isi (by rfl) T.isinstance (by decide +kernel) (pa_cons (pv 1) (pa_cons (pe_bltn (v := .ty "tuple") (u := .type "tuple") (by rfl) T.tuple (by decide +kernel) rfl) pa_nil))) (nomark _)))))
 (pss_one (ps_ret pe_bl))
 pss_nil)
 (pss_one (ps_ret (pe_and (pe_cmpR op_eq (pe_callB call_len_seq (by rfl) T.len PySem.boot_len (pa_cons (pv 0) pa_nil)) (pe_callB call_len_seq (by rfl) T.len PySem.boot_len (pa_cons (pv 1) pa_nil)) (nomark _)) (pe_one (pe_callB (cr_all rfl) (by rfl) T.all (by decide +kernel) (pa_cons (pe_lc (own := [("_law_x", 2), ("_law_y", 3)]) (g := gTup K 2 (gCons (gName 2) (gCons (gName 3) gNil))) (by rfl) sc__law_same.nd (RZ.pi_zipA (by rfl) T.zip (pa_cons (pv 0) (pa_cons (pv 1) pa_nil))) (blkOk_by (N := N__law_same) (sc := defScope s__law_same) (by decide +kernel)) (fun _ _ _ _ _ => (pg_tup rfl (pgs_cons (pg_name (i := 2) sc__law_same.nd rfl (Or.inl rfl)) (pgs_cons (pg_name (i := 3) sc__law_same.nd rfl (Or.inl rfl)) pgs_nil)))) (fun _ _ _ _ _ => pts_nil) (fun _ _ _ _ _ => (pe_call G__law_same (hr.mono (by omega)) (by rfl) T.g__law_same T.f__law_same.kp T.b__law_same .nil pass0 (pa_cons (pv 2) (pa_cons (pv 3) pa_nil))))) pa_nil)))))))
 pss_nil)
 (pss_cons (ps_if (pt_val (pe_callB call_isi (by rfl) T.isinstance (by decide +kernel) (pa_cons (pv 1) (pa_cons (pe_bltn (v := .ty "int") (u := .type "int") (by rfl) T.int (by decide +kernel) rfl) pa_nil))))
 (pss_one (ps_ret (pe_and (pe_callB call_isi (by rfl) T.isinstance (by decide +kernel) (pa_cons (pv 0) (pa_cons (pe_bltn (v := .ty "int") (u := .type "int") (by rfl) T.int (by decide +kernel) rfl) pa_nil))) (pe_and (pe_cmpR op_eq (pe_callB call_isi (by rfl) T.isinstance (by decide +kernel) (pa_cons (pv 0) (pa_cons (pe_bltn (v := .ty "bool") (u := .type "bool") (by rfl) T.bool (by decide +kernel) rfl) pa_nil))) (pe_callB call_isi (by rfl) T.isinstance (by decide +kernel) (pa_cons (pv 1) (pa_cons (pe_bltn (v := .ty "bool") (u := .type "bool") (by rfl) T.bool (by decide +kernel) rfl) pa_nil))) (nomark _)) (pe_one (pe_cmpR op_eq (pv 0) (pv 1) (nomark _)))))))
 pss_nil)
 (pss_one (ps_ret (pe_and (pe_cmpR op_isBl (pe_callB call_isiT (by rfl) T.isinstance (by decide +kernel) (pa_cons (pv 0) (pa_cons (pe_tup (pa_cons (pe_bltn (v := .ty "int") (u := .type "int") (by rfl) T.int (by decide +kernel) rfl) (pa_cons (pe_bltn (v := .ty "list") (u := .type "list") (by rfl) T.list (by decide +kernel) rfl) (pa_cons (pe_bltn (v := .ty "tuple") (u := .type "tuple") (by rfl) T.tuple (by decide +kernel) rfl) pa_nil)))) pa_nil))) pe_bl (nomark _)) (pe_one (pe_cmpR op_eq (pv 0) (pv 1) (nomark _)))))))), ?_⟩
    refine ⟨_, rfl, by show 2 ≤ sizeLine; decide, fun p np => ?_⟩
    have s1 : Same H (upd H p (.tup [.ty "list", .ty "tuple"])) := Same.new np
    have a1 := sqUp h1 s1
    have a2 := sqUp h2 s1
    have hpt : upd H p (.tup [.ty "list", .ty "tuple"]) p = some (.tup [.ty "list", .ty "tuple"]) := upd_same
    generalize upd H p (.tup [.ty "list", .ty "tuple"]) = H1 at s1 a1 a2 hpt ⊢
    have t1' := tyL a1
    have t2' := tyL a2
    refine ⟨_, p, _, _, _, true, rfl, hpt, .cons (.ty _) (.cons (.ty _) .nil), t2', kit2 (a := "list") (b := "list") (c := "tuple") (r := true) (s := false) (by decide +kernel) (by decide +kernel), _, rfl, iteT ?_⟩
    refine ⟨_, rfl, _, _, .type "list", _, true, rfl, .ty _, t1', kit_ty (by decide +kernel), _, rfl, _, _, .type "list", _, true, rfl, .ty _, t2', kit_ty (by decide +kernel), rfl, _, rfl, iteF ?_⟩
    refine ⟨_, rfl, _, _, .type "list", _, false, rfl, .ty _, t1', kit_ty (by decide +kernel), _, rfl, _, _, .type "list", _, false, rfl, .ty _, t2', kit_ty (by decide +kernel), rfl, _, rfl, iteF ?_⟩
    refine ⟨_, rfl, _, _, rfl, .inl a1, _, rfl, _, _, rfl, .inl a2, rfl, true, ?_, iteT ?_⟩
    · rw [decide_eq_true (by rw [List.length_map, List.length_map, hab])]
    refine ⟨_, rfl, _, rfl, _, _, _, _, rfl, .inl ⟨a1, a2, fun D hD => lc_it (walk_zip rfl) (fun i H' => Same H1 H' ∧ H' D = some (.lst ((List.replicate i true).map V.bl))) ⟨Same.new hD, upd_same⟩ (fun i H' _ q => ⟨sqUp a1 q.1, sqUp a2 q.1⟩) ?_ (fun H' q => ?_)⟩⟩
    · rintro i v H' H'' hi ⟨s2, hD'⟩ ⟨T, u, w', rfl, hT, rfl, hx', hy'⟩
      obtain ⟨a, ea, rfl⟩ := ref_at hx'
      obtain ⟨b, eb, rfl⟩ := ref_at hy'
      have s3 := s2.trans (Same.new (o := .tup [.ref a, .ref b]) hT)
      have pr := ((hp i a b ea eb).up s1).up s3
      have il : i < 64 := by
        have := (List.getElem?_eq_some_iff.mp ea).1
        omega
      refine ⟨T, [.ref a, .ref b], rfl, SqT.of upd_same, rfl, _, _, rfl, _, _, rfl, rfl, rfl, ?_⟩
      obtain ⟨z, x, y, h3, h4, h5⟩ := pr
      refine ⟨_, rfl, _, rfl, a, b, x, y, z, rfl, h3, h4, h5, fun H3 s4 => ?_⟩
      have hD3 : H3 D = some (.lst ((List.replicate i true).map V.bl)) := s4 _ _ (Same.new hT _ _ hD')
      refine ⟨_, hD3, by rw [List.length_map, List.length_replicate]; exact Nat.lt_of_lt_of_le il (by decide), ?_, ?_⟩
      · exact fun b o e => by rw [upd_ne (ne_of_none e hD)]; exact (s3.trans s4) _ _ e
      · rw [upd_same, List.replicate_succ', List.map_append]; rfl
    · refine ⟨D, _, rfl, SqL.of q.2, ?_⟩
      rw [all_true]
      exact k _ (s1.trans q.1)
theorem takes_len {X : Cx} {W : WX} (t : Takes X W) : Takes X (fun c d σ H => σ.length = X.N.length → W c d σ H) := fun u s' ⟨a, B, sI, pins, σ, H, cls, d, e, I, nb, up, sky, na, os, ag, w⟩ =>
  t u s' ⟨a, B, sI, pins, σ, H, cls, d, e, I, nb, up, sky, na, os, ag, w I.len⟩
theorem three {α : Type} {xs : List α} (h : xs.length = 3) : ∃ x y z, xs = [x, y, z] := match xs, h with | [x, y, z], _ => ⟨x, y, z, rfl⟩
/-! ### what is tried -/
def TTtried (CN : Addr) : (XK → Hp → VK → Prop) → Hp → VK → Prop := fun tl H Q =>
  tl (fun cls d H' => cls = .ref CN ∧ ∃ dd y, d = some dd ∧ H' dd = some (.xd [("name", y)]) ∧ ∀ t, H' t = none → Q (.ref t) (upd H' t (.tup [.str "none", y]))) H
    (fun v H1 => [V.str "told", v].length ≤ sizeLine ∧ ∀ t, H1 t = none → ∃ u, (some (some (V.ref t)) : Option (Option V)) = some (some u) ∧ Q u (upd H1 t (.tup [.str "told", v])))
theorem tried_gives {X : Cx} {q : Str} {cdg : Value} (T : Txt X.K X.mg A) :
    LamX.GivesTo X N__law_tried "_law_tried" (defScope s__law_tried) A.a__law_tried cdg (defBody s__law_tried) "_law_ask" q (TTtried A.a_NoDish) := by
  intro f c' s H Q tl act hc h
  refine ⟨_, pss_cons (ps_set (i := 1) sc__law_tried.nd rfl (Or.inl rfl) pe_non) (pss_cons (ps_try_as (i := 2) (c := .ref A.a_NoDish)
      (tb := fun (W : WX) D σ H => ∃ Ech : XK, (∀ (cls : Value) (d : Option Addr) (σ' : St) (H' : Hp), Ech cls d H' → σ'.length = 3 → W cls d σ' H') ∧ σ[0]? = some (some (.ref f)) ∧ H c' = some (LamX.CodeO c' q) ∧ tl Ech H fun v H1 => [V.str "told", v].length ≤ sizeLine ∧ ∀ t, H1 t = none → D.nx (σ.set 1 (some (.ref t))) (upd H1 t (.tup [.str "told", v])))
      rfl rfl sc__law_tried.nd rfl rfl ⟨rfl, by decide, .inl T.g_NoDish⟩ takes0 (fun W pn xe tk _ => ?_)
      (fun a oe cls d pn hz hf => pss_one (ps_set (i := 1) sc__law_tried.nd rfl (Or.inl rfl) (pe_tup (pa_cons pe_str (pa_cons (pe_xf T.xfN T.nN hz hf (pv 2)) pa_nil)))))) (pss_one (ps_ret (pv 1)))), ?_⟩
  · refine ⟨fun pins s' σ H' D I h' => ?_⟩
    obtain ⟨Ech, hW, h1, h2, h3⟩ := h'
    have hp := fun p1 p2 => act (fun c d σ H => σ.length = 3 → W c d σ H) pn xe Ech p1 p2 (takes_len tk) hW
    exact PSs.run (pss_one (ps_set (i := 1) sc__law_tried.nd rfl (Or.inl rfl) (pe_tup (pa_cons pe_str (pa_cons (hp _ _) pa_nil))))) pins s' σ H' D I ⟨h1, h2, h3⟩
  · refine ⟨_, ?_, rfl, hc, h⟩
    rintro cls d σ' H' ⟨rfl, dd, y, rfl, hdd, k⟩ hl
    obtain ⟨x0, x1, x2, rfl⟩ := three hl
    refine ⟨true, T.eN, fun _ a ha => ?_, fun z => nomatch z⟩
    exact ⟨_, rfl, rfl, rfl, dd, _, y, rfl, hdd, rfl, by show 2 ≤ sizeLine; decide, fun t ht => ⟨_, rfl, k t ht⟩⟩
end
end K5
set_option Elab.async false
set_option linter.all false
set_option maxRecDepth 100000
set_option maxHeartbeats 4000000
namespace K5
open PySem L2
local macro_rules | `(tactic| walk_at "rd1") => `(tactic| first
  | refine ⟨_, _, rfl, rfl, ?_⟩
  | refine ⟨_, _, _, _, rfl, rfl, SqL.of (by assumption), rfl, ?_⟩
  | refine ⟨_, _, _, _, rfl, rfl, (by assumption), rfl, ?_⟩
  | refine .inl ⟨_, rfl, ?_⟩
  | refine ⟨_, rfl, ?_⟩
  | refine ⟨(by unfold CMul; omega), ?_⟩
  | refine ⟨(by unfold CPow; omega), ?_⟩
  | refine ⟨(by (try dsimp only); omega), ?_⟩
  | refine ⟨(by unfold CDiv; omega), ?_⟩
  | fail "rd1")
local macro_rules | `(tactic| walk_at "rd") => `(tactic| repeat' (walk_at "rd1"))
section
variable {P : Program} {w : World} {K : PySem.W.Frag} {mg : Str → Option Value} {base : Heap} {A : Ad}

open Own
theorem er_keep {H : Hp} {st x a : Addr} {o u : HO} (hx : x ≠ st) (h : er H st a = some u) (n : a ≠ x) : er (upd H x o) st a = some u := by rw [er_updp hx, upd_ne n]; exact h
theorem same_erp' {H : Hp} {x : Addr} {o : HO} (h : H x = none) : Same H (er (upd H x o) x) := fun b u e => er_of (ne_of_none e h) (by rw [upd_ne (ne_of_none e h)]; exact e)
theorem ROk.perm {rk : Str → Nat} {ns ys : List Str} {hk : Str → Str} (h : ROk rk (rowsF ns hk)) (p : ys.Perm ns) : ROk rk (rowsF ys hk) := by
  have nd : ns.Nodup := by have := h.nd; rwa [ksR_F] at this
  have hl : ns.length < 64 := by have := h.len; rwa [← ksR_len, ksR_F] at this
  have up : ∀ k x, (k, x) ∈ rowsF ys hk → (k, x) ∈ rowsF ns hk := fun k x m => by
    obtain ⟨m1, e⟩ := of_mem_F m
    rw [e]; exact mem_F (p.mem_iff.mp m1)
  refine ⟨by rw [ksR_F]; exact p.nodup_iff.mpr nd, fun s m => h.nm s ?_, ?_, fun k x m => (h.acy k x (up k x m)).imp_right fun e => ⟨?_, e.2⟩, fun s m => h.rkb s ?_⟩
  · rw [ksR_F] at m ⊢; exact p.mem_iff.mp m
  · rw [← ksR_len, ksR_F, p.length_eq]; exact hl
  · have := e.1
    rw [ksR_F] at this ⊢; exact p.mem_iff.mpr this
  · rw [ksR_F] at m ⊢; exact p.mem_iff.mp m
/-- ways there are -/
theorem ways_ex2 {rk : Str → Nat} {ys : List Str} {hk : Str → Str} (h : ROk rk (rowsF ys hk)) : ∃ W : Str → List Str, ∀ n ∈ ys, Way (rowsF ys hk) n (W n) ∧ ∀ d ∈ W n, d ∈ ys := by
  have e : ∀ n : Str, ∃ ws, n ∈ ys → Way (rowsF ys hk) n ws := fun n => by
    by_cases m : n ∈ ys
    · obtain ⟨ws, w⟩ := way_ex h (by rw [ksR_F]; exact m)
      exact ⟨ws, fun _ => w⟩
    · exact ⟨[], fun z => absurd z m⟩
  refine ⟨fun n => (e n).choose, fun n m => ⟨(e n).choose_spec m, ?_⟩⟩
  obtain ⟨h0, _, pa, _⟩ := (e n).choose_spec m
  have g : ∀ {x : Str} {ws : List Str}, Path (rowsF ys hk) x ws → ∀ d ∈ ws, d ∈ ys := by
    intro x ws p
    induction p with
    | clock => intro d hd; cases hd
    | step ne m r ih =>
      intro d hd
      rcases List.mem_cons.mp hd with e | hd
      · subst e; exact (of_mem_F m).1
      · exact ih d hd
  exact g pa
theorem way_up1 {rows : Rows} {n h : Str} {ws : List Str} (nd : (ksR rows).Nodup) (m : (n, h) ∈ rows) (w : Way rows n ws) : Path rows h ws := by
  obtain ⟨h2, m2, pa, _⟩ := w
  cases memSnd nd m m2
  exact pa
theorem BkAt.er {C : Addr} {H : Hp} {p st : Addr} {xs : List V} {ys : List Str} {hk : Str → Str} {wt : Str → Int} (h : BkAt C H p ys hk wt) (hst : H st = some (.lst xs)) : BkAt C (er H st) p ys hk wt := by
  obtain ⟨dx, qh, qw, e1, e2, e3⟩ := h.ex
  have ne : ∀ {b : Addr} {u : HO}, H b = some u → (∀ xs, u ≠ .lst xs) → b ≠ st := fun e h z => by rw [z, hst] at e; exact h _ (Option.some.inj e).symm
  exact ⟨dx, qh, qw, er_of (ne e1 fun _ z => nomatch z) e1, er_of (ne e2 fun _ z => nomatch z) e2, er_of (ne e3 fun _ z => nomatch z) e3⟩

/-! ### the heap without its tables -/
def nt (H : Hp) : Hp := fun a => match H a with | some (.tbl _) => none | o => o
theorem nt_ne {H : Hp} {a : Addr} {o : HO} (h : nt H a = some o) : ∀ ps, o ≠ .tbl ps := fun ps e => by
  subst e
  unfold nt at h
  cases e : H a with
  | none => rw [e] at h; cases h
  | some u => rw [e] at h; cases u <;> cases h
theorem nt_some {H : Hp} {a : Addr} {o : HO} (h : nt H a = some o) : H a = some o := by
  unfold nt at h
  cases e : H a with
  | none => rw [e] at h; cases h
  | some u => rw [e] at h; cases u <;> first | exact h | cases h
theorem nt_of {H : Hp} {a : Addr} {o : HO} (h : H a = some o) (n : ∀ ps, o ≠ .tbl ps) : nt H a = some o := by
  unfold nt
  rw [h]
  cases o <;> first | rfl | exact absurd rfl (n _)
theorem nt_same {H : Hp} : Same (nt H) H := fun _ _ h => nt_some h
theorem nt_mono {H H' : Hp} (s : Same H H') : Same (nt H) (nt H') := fun _ _ h => nt_of (s _ _ (nt_some h)) (nt_ne h)
/-- all but the draws' state and the tables -/
def nE (H : Hp) (st : Addr) : Hp := nt (er H st)
theorem nE_same {H : Hp} {st : Addr} : Same (nE H st) H := nt_same.trans (er_same _ _)
theorem nE_mono {H H' : Hp} {st : Addr} (s : Same H H') : Same (nE H st) (nE H' st) := nt_mono (er_mono s)
theorem nE_gs {H H' : Hp} {st c : Addr} {b : Int} (g : Gs st c H H' b) : Same (nE H st) (nE H' st) := nt_mono g.same
theorem nE_ext {H H' : Hp} {st : Addr} (e : LamX.ExtN H H') : Same (nE H st) (nE H' st) := fun _ _ h => by
  have q := er_some (nt_some h)
  exact nt_of (er_of q.1 (e _ _ q.2 (nt_ne h))) (nt_ne h)
theorem nE_of {H : Hp} {st a : Addr} {o : HO} (h : er H st a = some o) (n : ∀ ps, o ≠ .tbl ps) : nE H st a = some o := nt_of h n
theorem sqtNt {H : Hp} {a : Addr} {xs : List V} (h : SqT K H a xs) : SqT K (nt H) a xs := by
  rcases h with (h | ⟨o, h⟩) | h
  · exact .inl (.inl (nt_of h fun _ z => nomatch z))
  · exact .inl (.inr ⟨o, nt_of h fun _ z => nomatch z⟩)
  · exact .inr h
theorem Pr2.nt {H : Hp} {ns : List Str} {f g : Str → V} {kvs : List (Key × V)} (h : Pr2 K H ns f g kvs) : Pr2 K (nt H) ns f g kvs :=
  ⟨h.keys, fun i n e => by obtain ⟨a, e1, e2⟩ := h.at_ i n e; exact ⟨a, e1, sqtNt e2⟩⟩
theorem BkAt.nt {C : Addr} {H : Hp} {p : Addr} {ys : List Str} {hk : Str → Str} {wt : Str → Int} (h : BkAt C H p ys hk wt) : BkAt C (nt H) p ys hk wt := by
  obtain ⟨dx, qh, qw, e1, e2, e3⟩ := h.ex
  exact ⟨dx, qh, qw, nt_of e1 (fun _ z => nomatch z), nt_of e2 (fun _ z => nomatch z), nt_of e3 (fun _ z => nomatch z)⟩
/-! ### sums -/
def sW (W : Str → List Str) (wt : Str → Int) (n : Str) : Int := wt n + ((W n).reverse.map wt).sum
theorem sW_clk {ys : List Str} {hk : Str → Str} {wt : Str → Int} {W : Str → List Str} {rk : Str → Nat} (hO : ROk rk (rowsF ys hk)) (hW : ∀ n ∈ ys, Way (rowsF ys hk) n (W n) ∧ ∀ d ∈ W n, d ∈ ys) {n : Str} (m : n ∈ ys) : sW W wt n = clk (sW W wt) (hk n) + wt n := by
  have kN : (ksR (rowsF ys hk)).Nodup := hO.nd
  have pa := way_up1 kN (mem_F m) (hW _ m).1
  by_cases hc : hk n = "clock"
  · rw [hc] at pa
    have e : W n = [] := Path.det kN pa .clock
    unfold sW clk
    rw [e, if_pos hc]
    simp
  · have hy : hk n ∈ ys := by
      have := ((hO.acy n _ (mem_F m)).resolve_left hc).1
      rwa [ksR_F] at this
    have pb := way_up1 kN (mem_F hy) (hW _ hy).1
    have e : W n = hk n :: W (hk n) := Path.det kN pa (.step hc (mem_F hy) pb)
    unfold clk
    rw [if_neg hc]
    unfold sW
    rw [e]
    simp only [List.reverse_cons, List.map_append, List.map_cons, List.map_nil, List.sum_append, List.sum_cons, List.sum_nil]
    omega
theorem wOf_sW {ys : List Str} {hk : Str → Str} {wt : Str → Int} {W : Str → List Str} {rk : Str → Nat} (hO : ROk rk (rowsF ys hk)) (hW : ∀ n ∈ ys, Way (rowsF ys hk) n (W n) ∧ ∀ d ∈ W n, d ∈ ys) {n : Str} (m : n ∈ ys) : wOf hk (sW W wt) n = wt n := by
  unfold wOf
  rw [sW_clk hO hW m]
  omega

theorem Path.mono {rs rows : Rows} (f : ∀ k h, (k, h) ∈ rs → (k, h) ∈ rows) : ∀ {h : Str} {ws : List Str}, Path rs h ws → Path rows h ws
  | _, _, .clock => .clock
  | _, _, .step ne m r => .step ne (f _ _ m) (r.mono f)
theorem Way.mono {rs rows : Rows} {nm : Str} {ws : List Str} (f : ∀ k h, (k, h) ∈ rs → (k, h) ∈ rows) (w : Way rs nm ws) : Way rows nm ws := by
  obtain ⟨h, m, pa, l⟩ := w
  exact ⟨h, f _ _ m, pa.mono f, l⟩
/-- the book, held against its rows -/
def spTells (K : PySem.W.Frag) (C : Addr) : Sp := fun vs H Q _ => ∃ (p d u : Addr) (ys ms : List Str) (hk : Str → Str) (wt : Str → Int) (kr : List (Key × V)) (rk : Str → Nat), vs = [.ref p, .ref d, .ref u] ∧ BkAt C H p ys hk wt ∧ H d = some (.dK kr) ∧ Pr2 K H ms (fun n => .str (hk n)) (fun n => .int (wt n)) kr ∧ H u = some (.lst (ys.map V.str)) ∧
  ys.Perm ms ∧ ROk rk (rowsF ms hk) ∧ ms.length < 64 ∧ PyProof.Rows.sortedS ys = true ∧ (∀ s ∈ ms, PyData.strOk s = true) ∧ ("clock" : Str) ∉ ms ∧ ∀ H', Same H H' → Q (.bl true) H'
theorem ok_tells (T : Txt K mg A) : FnOk P w K mg base CX0 8 A.a__law_tells A.d__law_tells P__law_tells (spTells K A.a_Book) := by
  have G_Book_rows : FnOk P w K mg base CX0 1 A.a_Book_rows A.d_Book_rows P_Book_rows (spBRows K A.a_Book) := ok_brows T
  have G__law_same_dict : FnOk P w K mg base CX0 3 A.a__law_same_dict A.d__law_same_dict P__law_same_dict (spSamePr K) := ok_samepr T
  have G__law_same : FnOk P w K mg base CX0 6 A.a__law_same A.d__law_same P__law_same (spSame K 6) := ok_same T 6
  have G__law_sum : FnOk P w K mg base CX0 1 A.a__law_sum A.d__law_sum P__law_sum (spSum K) := ok_sum T
  have G_Book_wait : FnOk P w K mg base (L2.CX P w) 4 A.a_Book_wait A.d_Book_wait P_Book_wait (spBWait K 0 A.a_Book A.a_NoDish) := ok_bwait T 0
  have G_Book___getitem__ : FnOk P w K mg base (L2.CX P w) 4 A.a_Book___getitem__ A.d_Book___getitem__ P_Book___getitem__ (spBItem K 0 A.a_Book A.a_NoDish) := ok_bitem T 0
  have G_Book_added : FnOk P w K mg base (L2.CX P w) 4 A.a_Book_added A.d_Book_added P_Book_added (spBAdded K 0 A.a_Book A.a_NoDish) := ok_badded T 0
  have G_Book_hanging : FnOk P w K mg base CX0 6 A.a_Book_hanging A.d_Book_hanging P_Book_hanging (spBHang K A.a_Book A.a_Hanging) := ok_bhang T
  have G_Hanging___init__ : FnOk P w K mg base CX0 4 A.a_Hanging___init__ A.d_Hanging___init__ P_Hanging___init__ (spHInit A.a_Hanging) := ok_hinit T
  have G_Hanging___eq__ : FnOk P w K mg base CX0 1 A.a_Hanging___eq__ A.d_Hanging___eq__ P_Hanging___eq__ (spHEq2 A.a_Hanging) := ok_heq2 T
  refine T.f__law_tells.ok sc__law_tells (fun vs H Q E h => ?_) (fun cdv A' outer s H vs Q E hr h => ?_)
  · obtain ⟨p, d, u, ys, ms, hk, wt, kr, rk, rfl, _⟩ := h
    rfl
  · obtain ⟨p, d, u, ys, ms, hk, wt, kr, rk, rfl, B, hd, hP, hu, yp, hO, hl, hsy, hok, hc, k⟩ := h
    have nd : ms.Nodup := by have := hO.nd; rwa [ksR_F] at this
    have yN : ys.Nodup := yp.nodup_iff.mpr nd
    have yl : ys.length < 64 := by rw [yp.length_eq]; exact hl
    have hOy := hO.perm yp
    refine ⟨_, (pss_cons (ps_if (pt_not (pt_val (pe_call G__law_same_dict (hr.mono (by omega)) (by rfl) T.g__law_same_dict T.f__law_same_dict.kp T.b__law_same_dict .nil pass0 (pa_cons (pe_meth0 (pv 0) T.cl_B T.m_rowsB G_Book_rows (hr.mono (by omega)) T.b_Book_rows .nil pass0) (pa_cons (pe_callTy (call_dictP rfl) (by rfl) T.dict (by decide +kernel) (pa_cons (pe_lc (own := [("_law_name", 3)]) (g := gName 3) (by rfl) sc__law_tells.nd (pi_list (pv 2)) (blkOk_by (N := N__law_tells) (sc := defScope s__law_tells) (by decide +kernel)) (fun _ _ _ _ _ => pg_name (i := 3) sc__law_tells.nd rfl (Or.inl rfl)) (fun _ _ _ _ _ => pts_nil) (fun _ _ _ _ _ => (pe_tup (pa_cons (pv 3) (pa_cons (pe_dget (hu_of hr) (pv 1) (pv 3) (fun _ _ => rfl)) pa_nil))))) pa_nil)) pa_nil)))))
 (pss_one (ps_ret pe_bl))
 pss_nil)
 (pss_cons (ps_if (pt_cmpR (op_neD hr.units) (pe_lock (pe_callTy (Own.call_listIt (fun _ => ok_biter T) T.b_Book___iter__ pass0 rfl (hr.mono (by omega)) T.m_iterB.1 T.m_iterB.2 T.nLenB T.nHintB) (by rfl) T.list (by decide +kernel) (pa_cons (pv 0) pa_nil))) (pv 2) (nomark _))
 (pss_one (ps_ret pe_bl))
 pss_nil)
 (pss_cons (ps_lock (ps_for PassesOwn.never rfl (Own.pi_own (fun _ => ok_biter T) T.b_Book___iter__ pass0 (hr.mono (by omega)) T.m_iterB.1 T.m_iterB.2 (pv 0)) (pg_name (i := 3) sc__law_tells.nd rfl (Or.inl rfl))
 (pss_cons (ps_set (i := 4) sc__law_tells.nd rfl (Or.inl rfl) (pe_lst (pa_cons (Own.pe_itm (pv 0) G_Book___getitem__ T.m_itm.1 T.m_itm.2.1 T.m_itm.2.2 T.b_Book___getitem__ passL (hr.mono (by omega)) (pv 3) (fun _ _ => rfl)) (pa_cons (pe_meth (pv 0) T.cl_B T.m_wait G_Book_wait (hr.mono (by omega)) T.b_Book_wait .nil passL (pa_cons (pv 3) pa_nil)) (pa_cons (pe_meth (pv 0) T.cl_B T.m_added G_Book_added (hr.mono (by omega)) T.b_Book_added .nil passL (pa_cons (pv 3) pa_nil)) pa_nil)))))
 (pss_one (ps_if (pt_not (pt_val (pe_call G__law_same (hr.mono (by omega)) (by rfl) T.g__law_same T.f__law_same.kp T.b__law_same .nil pass0 (pa_cons (pv 4) (pa_cons (pe_lst (pa_cons (pe_dget (hu_of hr) (pv 1) (pv 3) (fun _ _ => rfl)) (pa_cons (pe_ix ix_tup (pe_dget (hu_of hr) (pv 1) (pv 3) (fun _ _ => rfl)) pe_int (fun _ _ => rfl)) (pa_cons (pe_call G__law_sum (hr.mono (by omega)) (by rfl) T.g__law_sum T.f__law_sum.kp T.b__law_sum .nil pass0 (pa_cons (pv 1) (pa_cons (pv 3) pa_nil))) pa_nil)))) pa_nil)))))
 (pss_one (ps_ret pe_bl))
 pss_nil)))))
 (pss_one (ps_ret (pe_cmpR (Own.op_eqOwn G_Hanging___eq__ T.m_eq.at_ T.m_eq.fn T.b_Hanging___eq__ pass0 (hr.mono (by omega))) (pe_meth0 (pv 0) T.cl_B T.m_hanging G_Book_hanging (hr.mono (by omega)) T.b_Book_hanging .nil pass0) (pe_make T.mkH G_Hanging___init__ (hr.mono (by omega)) (by rfl) T.g_Hanging T.b_Hanging___init__ .nil pass0 (pa_cons (pe_callTy (call_dictP rfl) (by rfl) T.dict (by decide +kernel) (pa_cons (pe_lc (own := [("_law_name", 3)]) (g := gName 3) (by rfl) sc__law_tells.nd (pi_list (pv 2)) (blkOk_by (N := N__law_tells) (sc := defScope s__law_tells) (by decide +kernel)) (fun _ _ _ _ _ => pg_name (i := 3) sc__law_tells.nd rfl (Or.inl rfl)) (fun _ _ _ _ _ => pts_nil) (fun _ _ _ _ _ => (pe_tup (pa_cons (pv 3) (pa_cons (pe_ix (Own.ixTupOf (K := K) rfl) (pe_dget (hu_of hr) (pv 1) (pv 3) (fun _ _ => rfl)) pe_int (fun _ _ => rfl)) pa_nil))))) pa_nil)) pa_nil)) (nomark _))))))), ?_⟩
    obtain ⟨dx, qh, qw, hp, hh, hw⟩ := id B.ex
    refine ⟨_, rfl, p, dx, _, rfl, hp, rfl, p, ys, hk, wt, rfl, B, yN, yl, fun r k1 H1 s1 n1 hr1 hP1 => ?_⟩
    have hu1 := s1 _ _ hu
    have hd1 := s1 _ _ hd
    have hPd := hP.up s1
    refine ⟨_, rfl, u, rfl, ⟨_, SqL.of hu1⟩, fun D hD => ?_⟩
    refine lc_it (walk_list (K := K) (a := u) (xs := ys.map V.str)) (fun i H' => ∃ (ps : List Addr) (kv2 : List (Key × V)), H' D = some (.lst (ps.map V.ref)) ∧ Paired (fun p kv => SqT K H' p [kV kv.1, kv.2]) ps kv2 ∧ Pr2 K H' (ys.take i) (fun n => .str (hk n)) (fun n => .int (wt n)) kv2 ∧ Same H1 H')
      ⟨[], [], upd_same, .nil, Pr2.nil, Same.new hD⟩ (fun i H' _ z => ?_) ?_ (fun H5 z => ?_)
    · obtain ⟨_, _, _, _, _, s5⟩ := z
      exact SqL.of (s5 _ _ hu1)
    · rintro i x H' H'' hi ⟨ps, kv2, hD5, hP5, hR5, s5⟩ ⟨rfl, hx⟩
      obtain ⟨hi1, rfl⟩ := str_at hx
      have hm : ys[i] ∈ ms := yp.mem_iff.mp (List.getElem_mem hi1)
      obtain ⟨a, hv, hq⟩ := hPd.val nd hm
      refine ⟨rfl, _, rfl, _, rfl, _, rfl, d, .ref a, rfl, .inl ⟨kr, .inr ys[i], .inl (s5 _ _ hd1), rfl, hv.symm⟩, by show 2 ≤ sizeLine; decide, fun t2 nt2 => ?_⟩
      have s6 : Same H'' (upd H'' t2 (.tup [kV (.inr ys[i]), .ref a])) := Same.new nt2
      have h2 : upd H'' t2 (.tup [kV (.inr ys[i]), .ref a]) t2 = some (.tup [kV (.inr ys[i]), .ref a]) := upd_same
      have hD6 := s6 _ _ hD5
      have hP6 := paired_imp (fun p (kv : Key × V) (z : SqT K _ p [kV kv.1, kv.2]) => stUp z s6) hP5
      have hR6 := hR5.up s6
      have hq6 := stUp hq (s5.trans s6)
      have s6 := s5.trans s6
      refine cast_heap (b := upd H'' t2 (.tup [kV (.inr ys[i]), .ref a])) rfl ?_
      generalize upd H'' t2 (.tup [kV (.inr ys[i]), .ref a]) = H6 at s6 h2 hD6 hP6 hR6 hq6 ⊢
      have hpl : ps.length = i := by
        rw [hP5.length, hR5.len, List.length_take]; omega
      refine ⟨_, hD6, ?_, ?_⟩
      · rw [List.length_map, hpl]
        exact Nat.lt_of_lt_of_le (show i < 65 by omega) (by decide)
      have nL := noTup_lst (ps.map V.ref)
      have e1 : ys.take (i + 1) = ys.take i ++ [ys[i]] := by rw [List.take_succ, List.getElem?_eq_getElem hi1]; rfl
      have setT : ∀ {a : Addr} {xs : List V}, SqT K H6 a xs → SqT K (upd H6 D (.lst (ps.map V.ref ++ [.ref t2]))) a xs := fun z => tupSet hD6 nL z
      refine ⟨ps ++ [t2], kv2 ++ [(.inr ys[i], .ref a)], by rw [upd_same, List.map_append]; rfl, paired_snoc (paired_imp (fun p (kv : Key × V) z => setT z) hP6) (setT (SqT.of h2)), ?_, fun b u e => by rw [upd_ne (ne_of_none e hD)]; exact s6 _ _ e⟩
      rw [e1]
      exact Pr2.snoc (hR6.set hD6 nL) (setT hq6)
    obtain ⟨ps, kv2, hD5, hP5, hR5, s5⟩ := z
    rw [List.length_map, List.take_length] at hR5
    refine ⟨D, ps, kv2, rfl, SqL.of hD5, hP5, fun pd npd => ?_⟩
    rw [merge_all kv2 [] (by rw [List.nil_append, hR5.keys]; exact inr_nd yN), List.nil_append]
    have s6 : Same H5 (upd H5 pd (.dK kv2)) := Same.new npd
    have hp6 : upd H5 pd (.dK kv2) pd = some (.dK kv2) := upd_same
    have hR6 := hR5.up s6
    have S6 := s5.trans s6
    generalize upd H5 pd (.dK kv2) = H6 at S6 hp6 hR6 ⊢
    refine ⟨r, pd, ys, hk, wt, k1, kv2, rfl, S6 _ _ hr1, hp6, hP1.up S6, hR6, yN, yl, fun s m => hok s (yp.mem_iff.mp m), fun H7 s7 => ⟨_, rfl, iteF ?_⟩⟩
    have S7 := s1.trans (S6.trans s7)
    clear S6 s7 s6 hp6 hR6 npd s5 hR5 hP5 hD5 hD hu1 hd1 hPd hr1 hP1 n1 s1
    have hp7 := S7 _ _ hp
    have hh7 := S7 _ _ hh
    have hw7 := S7 _ _ hw
    have hd7 := S7 _ _ hd
    have hu7 := S7 _ _ hu
    have hP7 := hP.up S7
    have npq : p ≠ qh := fun e => by rw [e, hh] at hp; cases hp
    -- list(book)
    refine ⟨qh, _, hh7, trivial, fun od => ?_⟩
    have z1 : ∀ {o : HO}, upd H7 qh o p = some (.ins A.a_Book dx [("hooks", .ref qh), ("waits", .ref qw)]) := fun {o} => by rw [upd_ne npq]; exact hp7
    refine ⟨_, rfl, p, dx, _, rfl, z1, fun S2 nS m => ?_⟩
    have nSq : S2 ≠ qh := fun e => by rw [e, upd_same] at nS; cases nS
    have z2 : ∀ {o : HO}, upd (upd H7 qh (.frz od (.dK (kvF ys fun n => .str (hk n))))) S2 o p = some (.ins A.a_Book dx [("hooks", .ref qh), ("waits", .ref qw)]) := fun {o} => Same.new nS _ _ z1
    have z3 : ∀ {o : HO}, upd (upd H7 qh (.frz od (.dK (kvF ys fun n => .str (hk n))))) S2 o qh = some (.frz od (.dK (kvF ys fun n => .str (hk n)))) := fun {o} => Same.new nS _ _ upd_same
    refine ⟨p, dx, qh, qw, od, kvF ys fun n => .str (hk n), rfl, z2, z3, fun it nit hm => ⟨it, qh, od, kvF ys fun n => .str (hk n), rfl, upd_same, Same.new nit _ _ z3, Same.new nit _ _ upd_same, hm, ⟨dx, _, Same.new nit _ _ z2⟩, ?_⟩⟩
    rw [ItX.dropH_upd nit, upd_upd, keys_str (kvF_keys ys fun n => .str (hk n))]
    refine ⟨Same.new nS _ _ upd_same, ?_⟩
    have s8 : Same H7 (upd (upd (upd H7 qh (.frz od (.dK (kvF ys fun n => .str (hk n))))) S2 (.lst (ys.map V.str))) qh (.dK (kvF ys fun n => .str (hk n)))) := unfrz hh7 (Same.new nS)
    have hS8 : upd (upd (upd H7 qh (.frz od (.dK (kvF ys fun n => .str (hk n))))) S2 (.lst (ys.map V.str))) qh (.dK (kvF ys fun n => .str (hk n))) S2 = some (.lst (ys.map V.str)) := by rw [upd_ne nSq, upd_same]
    generalize upd (upd (upd H7 qh (.frz od (.dK (kvF ys fun n => .str (hk n))))) S2 (.lst (ys.map V.str))) qh (.dK (kvF ys fun n => .str (hk n))) = H8 at s8 hS8 ⊢
    have yok : ∀ s ∈ ys, PyData.strOk s = true := fun s m => hok s (yp.mem_iff.mp m)
    refine ⟨_, rfl, .list (ys.map PyData.str), .list (ys.map PyData.str), .lst (SqL.of hS8) (dpStrs _), .lst (SqL.of (s8 _ _ hu7)) (dpStrs _), strs_shaped yok, strs_shaped yok, _, rfl, ?_⟩
    rw [eqv_strs_refl]
    refine iteF ?_
    clear z1 z2 z3 nS nSq hS8
    have S8 := S7.trans s8
    have hp8 := S8 _ _ hp
    have hh8 := S8 _ _ hh
    have hw8 := S8 _ _ hw
    have hd8 := S8 _ _ hd
    have hu8 := S8 _ _ hu
    have hP8 := hP.up S8
    clear hp7 hh7 hw7 hd7 hu7 hP7 s8 S7
    obtain ⟨W, hW⟩ := ways_ex2 hOy
    -- the loop
    refine ⟨qh, _, hh8, trivial, fun od => ?_⟩
    have uF : ∀ H2, Same (upd H8 qh (.frz od (.dK (kvF ys fun n => .str (hk n))))) H2 → Same H8 (upd H2 qh (.dK (kvF ys fun n => .str (hk n)))) := fun H2 s => unfrz hh8 s
    have fp : upd H8 qh (.frz od (.dK (kvF ys fun n => .str (hk n)))) p = some (.ins A.a_Book dx [("hooks", .ref qh), ("waits", .ref qw)]) := by rw [upd_ne npq]; exact hp8
    have fh : upd H8 qh (.frz od (.dK (kvF ys fun n => .str (hk n)))) qh = some (.frz od (.dK (kvF ys fun n => .str (hk n)))) := upd_same
    have fw : ∀ n ∈ ys, upd H8 qh (.frz od (.dK (kvF ys fun n => .str (hk n)))) qw = some (.dK (kvF ys fun n => .int (wt n))) := fun n m => BkAt.waits yN hp8 hh8 hw8 _ n m
    have fd : ∀ n ∈ ys, upd H8 qh (.frz od (.dK (kvF ys fun n => .str (hk n)))) d = some (.dK kr) := fun n m => by
      rw [upd_ne fun e => ?_]
      · exact hd8
      · rw [e, hh8] at hd8
        have e1 := HO.dK.inj (Option.some.inj hd8)
        obtain ⟨a, hv, _⟩ := hP8.val nd (yp.mem_iff.mp m)
        rw [← e1, kvF_val (f := fun n => V.str (hk n)) yN m] at hv
        cases hv
    have fP : Pr2 K (upd H8 qh (.frz od (.dK (kvF ys fun n => .str (hk n))))) ms (fun n => .str (hk n)) (fun n => .int (wt n)) kr := hP8.set hh8 (noTup_dK _)
    generalize upd H8 qh (.frz od (.dK (kvF ys fun n => .str (hk n)))) = F at uF fp fh fw fd fP ⊢
    refine ⟨_, rfl, p, dx, _, rfl, fp, fun m => ⟨p, dx, qh, qw, od, kvF ys fun n => .str (hk n), rfl, fp, fh, fun it nit hm => ⟨it, qh, od, kvF ys fun n => .str (hk n), rfl, upd_same, Same.new nit _ _ fh, hm, ?_⟩⟩⟩
    rw [ItX.dropH_upd nit]
    refine for_it walk_keys (fun i σ' H' => ∃ v3 v4, σ' = [some (.ref p), some (.ref d), some (.ref u), v3, v4] ∧ Same F H') ⟨_, _, rfl, Same.refl _⟩ (fun i σ' H' _ ⟨_, _, _, z⟩ => z _ _ fh) ?_ ?_
    · rintro i x σ' H' H'' hi ⟨v3, v4, rfl, s1⟩ ⟨rfl, key, v, hkv, rfl⟩
      obtain ⟨hi1, rfl, rfl⟩ := kvF_at hkv
      have m := List.getElem_mem hi1
      generalize ys[i] = n at m ⊢
      have gp := s1 _ _ fp
      have gB : BkR A.a_Book H'' p ys hk wt := ⟨dx, qh, qw, gp, .inr ⟨od, s1 _ _ fh⟩, s1 _ _ (fw _ m)⟩
      refine ⟨_, rfl, _, rfl, p, dx, _, rfl, gp, p, ys, hk, wt, _, rfl, gB, yN, .inl ⟨n, rfl, m, fun t nt => ?_⟩⟩
      have s2 := Same.new nt (o := .tup [.str (hk n), .int (wt n)])
      have ht : upd H'' t (.tup [.str (hk n), .int (wt n)]) t = some (.tup [.str (hk n), .int (wt n)]) := upd_same
      generalize upd H'' t (.tup [.str (hk n), .int (wt n)]) = H2 at s2 ht ⊢
      have s2 := s1.trans s2
      have gp := s2 _ _ fp
      have gB : BkR A.a_Book H2 p ys hk wt := ⟨dx, qh, qw, gp, .inr ⟨od, s2 _ _ fh⟩, s2 _ _ (fw _ m)⟩
      refine ⟨_, rfl, p, dx, _, rfl, gp, rfl, _, rfl, p, ys, hk, wt, _, rfl, gB, yN, .inl ⟨n, rfl, m, ?_⟩⟩
      refine ⟨_, rfl, p, dx, _, rfl, gp, rfl, _, rfl, p, ys, hk, wt, _, rfl, gB, yN, .inl ⟨n, W n, rfl, m, (hW n m).1, (hW n m).2, fun H3 s3 => ?_⟩⟩
      have ht := s3 _ _ ht
      have s3 := s2.trans s3
      refine ⟨by show 3 ≤ sizeLine; decide, fun L nL => ?_⟩
      have s4 := Same.new nL (o := .lst [.ref t, .int (wt n), .int (wt n + ((W n).reverse.map wt).sum)])
      have hL : upd H3 L (.lst [.ref t, .int (wt n), .int (wt n + ((W n).reverse.map wt).sum)]) L = some (.lst [.ref t, .int (wt n), .int (wt n + ((W n).reverse.map wt).sum)]) := upd_same
      generalize upd H3 L (.lst [.ref t, .int (wt n), .int (wt n + ((W n).reverse.map wt).sum)]) = H4 at s4 hL ⊢
      have ht := s4 _ _ ht
      have s4 := s3.trans s4
      have gd := s4 _ _ (fd _ m)
      have gP := fP.up s4
      have mm := yp.mem_iff.mp m
      obtain ⟨a, hv, hq⟩ := gP.val nd mm
      have dg : DGet H4 d (kV (.inr n)) (some (.ref a)) := .inl ⟨kr, .inr n, .inl gd, rfl, hv.symm⟩
      refine ⟨_, rfl, _, rfl, _, rfl, d, .ref a, rfl, dg, ?_⟩
      refine ⟨_, rfl, _, rfl, d, .ref a, rfl, dg, _, _, _, _, rfl, rfl, hq, rfl, ?_⟩
      refine ⟨_, rfl, _, rfl, d, kr, ms, hk, wt, n, W n, rfl, gd, gP, nd, mm, fun e => hc (by rw [← e]; exact mm), (hW n m).1.mono fun k x z => ?_, fun w z => yp.mem_iff.mp ((hW n m).2 w z), ?_⟩
      · obtain ⟨m1, e⟩ := of_mem_F z
        rw [e]; exact mem_F (yp.mem_iff.mp m1)
      refine ⟨by show 3 ≤ sizeLine; decide, fun L2 nL2 => ?_⟩
      have s5 := Same.new nL2 (o := .lst [.ref a, .int (wt n), .int (wt n + ((W n).reverse.map wt).sum)])
      refine ⟨_, _, .list [.tuple [.str (hk n), .int (wt n)], .int (wt n), .int (wt n + ((W n).reverse.map wt).sum)], rfl, .lst (SqL.of (s5 _ _ hL)) (.cons (.tup (SqT.of (s5 _ _ ht)) (.cons (.str _) (.cons (.int _) .nil))) (.cons (.int _) (.cons (.int _) .nil))),
        .lst (SqL.of upd_same) (.cons (.tup (stUp hq s5) (.cons (.str _) (.cons (.int _) .nil))) (.cons (.int _) (.cons (.int _) .nil))), by simp [PyData.depth, PyData.depthAll], rfl, fun H6 s6 => ⟨_, rfl, iteF ?_⟩⟩
      exact ⟨_, _, rfl, s4.trans (s5.trans s6)⟩
    · rintro σ' H' ⟨v3, v4, rfl, s1⟩
      have s9 := S8.trans (uF _ s1)
      have gh := s1 _ _ fh
      refine ⟨gh, ?_⟩
      have s9 := S8.trans (uF _ s1)
      have gB : BkAt A.a_Book (upd H' qh (.dK (kvF ys fun n => .str (hk n)))) p ys hk wt := B.up s9
      have gd := s9 _ _ hd
      have gP := hP.up s9
      have gu := s9 _ _ hu
      generalize upd H' qh (.dK (kvF ys fun n => .str (hk n))) = H9 at s9 gB gd gP gu ⊢
      clear gh s1 S8 uF fp fh fw fd fP
      obtain ⟨dx9, _, _, gp, _⟩ := id gB.ex
      refine ⟨_, rfl, p, dx9, _, rfl, gp, rfl, p, ys, hk, wt, rk, rfl, gB, hOy, hsy, fun q1 H10 d1 s10 hg1 => ?_⟩
      have gd := s10 _ _ gd
      have gP := gP.up s10
      have gu := s10 _ _ gu
      refine ⟨_, rfl, u, rfl, ⟨_, SqL.of gu⟩, fun D hD => ?_⟩
      refine lc_it (walk_list (K := K) (a := u) (xs := ys.map V.str)) (fun i H' => ∃ (ps : List Addr), H' D = some (.lst (ps.map V.ref)) ∧ Paired (fun p kv => SqT K H' p [kV kv.1, kv.2]) ps (kvF (ys.take i) fun n => .str (hk n)) ∧ Same H10 H')
        ⟨[], upd_same, .nil, Same.new hD⟩ (fun i H' _ z => ?_) ?_ (fun H5 z => ?_)
      · obtain ⟨_, _, _, s5⟩ := z
        exact SqL.of (s5 _ _ gu)
      · rintro i x H' H'' hi ⟨ps, hD5, hP5, s5⟩ ⟨rfl, hx⟩
        obtain ⟨hi1, rfl⟩ := str_at hx
        have hm : ys[i] ∈ ms := yp.mem_iff.mp (List.getElem_mem hi1)
        obtain ⟨a, hv, hq⟩ := gP.val nd hm
        refine ⟨rfl, _, rfl, _, rfl, _, rfl, d, .ref a, rfl, .inl ⟨kr, .inr ys[i], .inl (s5 _ _ gd), rfl, hv.symm⟩, _, _, _, _, rfl, rfl, stUp hq s5, rfl, by show 2 ≤ sizeLine; decide, fun t2 nt2 => ?_⟩
        have s6 : Same H'' (upd H'' t2 (.tup [kV (.inr ys[i]), .str (hk ys[i])])) := Same.new nt2
        have h2 : upd H'' t2 (.tup [kV (.inr ys[i]), .str (hk ys[i])]) t2 = some (.tup [kV (.inr ys[i]), .str (hk ys[i])]) := upd_same
        have hD6 := s6 _ _ hD5
        have hP6 := paired_imp (fun p (kv : Key × V) (z : SqT K _ p [kV kv.1, kv.2]) => stUp z s6) hP5
        have s6 := s5.trans s6
        refine cast_heap (b := upd H'' t2 (.tup [kV (.inr ys[i]), .str (hk ys[i])])) rfl ?_
        generalize upd H'' t2 (.tup [kV (.inr ys[i]), .str (hk ys[i])]) = H6 at s6 h2 hD6 hP6 ⊢
        have hpl : ps.length = i := by
          rw [hP5.length, kvF_len, List.length_take]; omega
        refine ⟨_, hD6, ?_, ?_⟩
        · rw [List.length_map, hpl]
          exact Nat.lt_of_lt_of_le (show i < 65 by omega) (by decide)
        have nL := noTup_lst (ps.map V.ref)
        have e1 : ys.take (i + 1) = ys.take i ++ [ys[i]] := by rw [List.take_succ, List.getElem?_eq_getElem hi1]; rfl
        have setT : ∀ {a : Addr} {xs : List V}, SqT K H6 a xs → SqT K (upd H6 D (.lst (ps.map V.ref ++ [.ref t2]))) a xs := fun z => tupSet hD6 nL z
        refine ⟨ps ++ [t2], by rw [upd_same, List.map_append]; rfl, ?_, fun b u e => by rw [upd_ne (ne_of_none e hD)]; exact s6 _ _ e⟩
        rw [e1, kvF_snoc]
        exact paired_snoc (paired_imp (fun p (kv : Key × V) z => setT z) hP6) (setT (SqT.of h2))
      obtain ⟨ps, hD5, hP5, s5⟩ := z
      rw [List.length_map, List.take_length] at hP5
      refine ⟨D, ps, _, rfl, SqL.of hD5, hP5, fun pd npd => ?_⟩
      rw [merge_all (kvF ys fun n => .str (hk n)) [] (by rw [List.nil_append, kvF_keys]; exact inr_nd yN), List.nil_append, ← kvR_F]
      have s6 : Same H5 (upd H5 pd (.dK (kvR (rowsF ys hk)))) := Same.new npd
      have hp6 : upd H5 pd (.dK (kvR (rowsF ys hk))) pd = some (.dK (kvR (rowsF ys hk))) := upd_same
      have S6 := s5.trans s6
      generalize upd H5 pd (.dK (kvR (rowsF ys hk))) = H6 at S6 hp6 ⊢
      refine fun x5 dx5 np ndx nex => ?_
      have sM : Same H6 (upd (upd H6 dx5 (.own x5)) x5 (.ins A.a_Hanging dx5 [])) := fun b u e => by rw [upd_ne (ne_of_none e np), upd_ne (ne_of_none e ndx)]; exact e
      refine ⟨x5, dx5, pd, _, _, rfl, upd_same, sM _ _ hp6, hOy, fun H12 q5 rs5 hg5 nq5 asc5 sS => ⟨rfl, ?_⟩⟩
      have s12 : Same H6 H12 := fun b u e => (er_same _ _) _ _ (sS _ _ (er_of (ne_of_none e np) (sM _ _ e)))
      obtain rfl := asc_same hsy asc5
      have hg1 := (hg1.up S6).up s12
      obtain ⟨dq1, hq1⟩ := id hg1.ex
      obtain ⟨dq2, hq2⟩ := id hg5.ex
      have sE := (s10.trans S6).trans s12
      refine ⟨q1, dq1, _, rfl, hq1, .ins hq2 T.nfH, q1, d1, x5, q5, _, _, rfl, hg1, hg5, ?_⟩
      rw [eqR_refl hOy.nd]
      exact ⟨_, rfl, k _ (s9.trans sE)⟩
end
end K5
set_option Elab.async false
set_option linter.all false
set_option maxRecDepth 100000
set_option maxHeartbeats 4000000
namespace K5
open PySem L2
local macro_rules | `(tactic| walk_at "rd1") => `(tactic| first
  | refine ⟨_, _, rfl, rfl, ?_⟩
  | refine ⟨_, _, _, _, rfl, rfl, SqL.of (by assumption), rfl, ?_⟩
  | refine ⟨_, _, _, _, rfl, rfl, (by assumption), rfl, ?_⟩
  | refine .inl ⟨_, rfl, ?_⟩
  | refine ⟨_, rfl, ?_⟩
  | refine ⟨(by unfold CMul; omega), ?_⟩
  | refine ⟨(by unfold CPow; omega), ?_⟩
  | refine ⟨(by (try dsimp only); omega), ?_⟩
  | refine ⟨(by unfold CDiv; omega), ?_⟩
  | fail "rd1")
local macro_rules | `(tactic| walk_at "rd") => `(tactic| repeat' (walk_at "rd1"))
section
variable {P : Program} {w : World} {K : PySem.W.Frag} {mg : Str → Option Value} {base : Heap} {A : Ad}

open Own
def qR : Str := (Str.ofString "_law_refuses" ++ ".<locals>.") ++ "<lambda>"
theorem odd_ok {G H : Hp} {l t d : Addr} {rs : Rows} (sG : Same G H) (hl : G l = some (.lst [])) (ht : G t = some (.tup [.str "rice"])) (hd : G d = some (.dK [])) (hp : ∀ s ∈ ksR rs, s ∈ pool) {x : V} (hx : x ∈ [V.str "late", .str "clock", .str "", .non, .int 5, .ref l, .ref t, .ref d, .bl true]) :
    Cpre K 4 G H x ∧ ((∃ s, x = .str s ∧ s ∉ ksR rs) ∨ ∃ t, TyX K H x (.type t) ∧ kitB t "str" = some false) := by
  have st : ∀ s : Str, s ∉ pool → Cpre K 4 G H (.str s) ∧ ((∃ z, V.str s = .str z ∧ z ∉ ksR rs) ∨ ∃ t, TyX K H (.str s) (.type t) ∧ kitB t "str" = some false) := fun s h =>
    ⟨⟨sG, .inl ⟨.str s, .str s, by simp [PyData.depth], rfl⟩⟩, .inl ⟨s, rfl, fun m => h (hp s m)⟩⟩
  simp only [List.mem_cons, List.not_mem_nil, or_false] at hx
  rcases hx with e | e | e | e | e | e | e | e | e <;> subst e
  · exact st _ (by decide +kernel)
  · exact st _ (by decide +kernel)
  · exact st _ (by decide +kernel)
  · exact ⟨⟨sG, .inl ⟨.none, .non, by simp [PyData.depth], rfl⟩⟩, .inr ⟨"NoneType", .base .non, by decide +kernel⟩⟩
  · exact ⟨⟨sG, .inl ⟨.int 5, .int 5, by simp [PyData.depth], rfl⟩⟩, .inr ⟨"int", .base (.int _), by decide +kernel⟩⟩
  · exact ⟨⟨sG, .inl ⟨.list [], .lst (SqL.of hl) .nil, by simp [PyData.depth, PyData.depthAll], rfl⟩⟩, .inr ⟨"list", .base (.lst (sG _ _ hl)), by decide +kernel⟩⟩
  · exact ⟨⟨sG, .inl ⟨.tuple [.str "rice"], .tup (SqT.of ht) (.cons (.str _) .nil), by simp [PyData.depth, PyData.depthAll], rfl⟩⟩, .inr ⟨"tuple", .base (.tup (sG _ _ ht)), by decide +kernel⟩⟩
  · exact ⟨⟨sG, .inr ⟨d, rfl, hd, by decide⟩⟩, .inr ⟨"dict", .base (.dK (sG _ _ hd)), by decide +kernel⟩⟩
  · exact ⟨⟨sG, .inl ⟨.bool true, .bl true, by simp [PyData.depth], rfl⟩⟩, .inr ⟨"bool", .base (.bl _), by decide +kernel⟩⟩
theorem nt_ext {H H' : Hp} (e : LamX.ExtN H H') : Same (nt H) (nt H') := fun _ _ h => nt_of (e _ _ (nt_some h) (nt_ne h)) (nt_ne h)
theorem ext_nt {H H' : Hp} (s : Same (nt H) (nt H')) : LamX.ExtN H H' := fun _ _ h n => nt_some (s _ _ (nt_of h n))
theorem tab_set {Pt L : Addr} {H : Hp} {xs ys : List V} (t : LamX.Tabs [(Pt, qR)] H) (h : H L = some (.lst xs)) : LamX.Tabs [(Pt, qR)] (upd H L (.lst ys)) := fun p hp => by
  obtain ⟨ps, h1, h2, h3⟩ := t p hp
  have up : ∀ x o, H x = some o → (∀ xs, o ≠ .lst xs) → upd H L (.lst ys) x = some o := fun x o e ne => by
    rw [upd_ne fun z => ?_]
    · exact e
    · rw [z, h] at e; exact ne _ (Option.some.inj e).symm
  refine ⟨ps, up _ _ h1 (fun xs z => by cases z), h2, fun pos cv hc => ?_⟩
  obtain ⟨c2, e2, e3⟩ := h3 pos cv hc
  exact ⟨c2, e2, up _ _ e3 (fun xs z => by unfold LamX.CodeO at z; cases z)⟩
theorem nt_upd {H0 H : Hp} {L : Addr} {o : HO} (s : Same (nt H0) (nt H)) (n : nt H0 L = none) : Same (nt H0) (nt (upd H L o)) := fun b u e => by
  have q := s _ _ e
  exact nt_of (by rw [upd_ne (ne_of_none e n)]; exact nt_some q) (nt_ne q)
theorem nt_free {H0 H : Hp} {L : Addr} (s : Same (nt H0) (nt H)) (n : H L = none) : nt H0 L = none := by
  cases e : nt H0 L with
  | none => rfl
  | some u => rw [nt_some (s _ _ e)] at n; cases n
theorem sqlNt {H : Hp} {a : Addr} {xs : List V} (h : SqL K H a xs) : SqL K (nt H) a xs := by
  rcases h with (h | ⟨o, h⟩) | h
  · exact .inl (.inl (nt_of h fun _ z => nomatch z))
  · exact .inl (.inr ⟨o, nt_of h fun _ z => nomatch z⟩)
  · exact .inr h
mutual
theorem dpNt {H : Hp} : ∀ {v : V} {d : PyData}, Dp K H v d → Dp K (nt H) v d
  | _, _, .non => .non
  | _, _, .bl b => .bl b
  | _, _, .int i => .int i
  | _, _, .str x => .str x
  | _, _, .lst h q => .lst (sqlNt h) (dpAllNt q)
  | _, _, .tup h q => .tup (sqtNt h) (dpAllNt q)
theorem dpAllNt {H : Hp} : ∀ {vs : List V} {ds : List PyData}, DpAll K H vs ds → DpAll K (nt H) vs ds
  | _, _, .nil => .nil
  | _, _, .cons a b => .cons (dpNt a) (dpAllNt b)
end
theorem sdNt {n : Nat} {H : Hp} {x y : V} (h : SD K n H x y) : SD K n (nt H) x y :=
  h.elim (fun ⟨d, a, b, c⟩ => .inl ⟨d, dpNt a, dpNt b, c⟩) fun ⟨a, b, e1, e2, h1, h2⟩ => .inr ⟨a, b, e1, e2, nt_of h1 (fun _ z => nomatch z), nt_of h2 (fun _ z => nomatch z)⟩
theorem PrS.nt {n : Nat} {H : Hp} {a b : Addr} (h : PrS K n H a b) : PrS K n (nt H) a b := by
  obtain ⟨z, x, y, h1, h2, h3⟩ := h
  exact ⟨z, x, y, nt_of h1 (fun _ z => nomatch z), nt_of h2 (fun _ z => nomatch z), sdNt h3⟩
/-- what is held of an answer: a pair ("none", y), y the same as x -/
def AnsN (K : PySem.W.Frag) (H : Hp) (x : V) (t : Addr) : Prop := ∃ y, H t = some (.tup [.str "none", y]) ∧ SD K 4 H x y
theorem AnsN.up {H H' : Hp} {x : V} {t : Addr} (h : AnsN K H x t) (s : Same H H') : AnsN K H' x t := by
  obtain ⟨y, h1, h2⟩ := h
  exact ⟨y, s _ _ h1, sd_up h2 s⟩
theorem AnsN.nt {H : Hp} {x : V} {t : Addr} (h : AnsN K H x t) : AnsN K (nt H) x t := by
  obtain ⟨y, h1, h2⟩ := h
  exact ⟨y, nt_of h1 (fun _ z => nomatch z), sdNt h2⟩
/-- the book refuses what is no dish of it -/
def spRefuses (C Pt : Addr) : Sp := fun vs H Q _ => ∃ (p : Addr) (ys : List Str) (hk : Str → Str) (wt : Str → Int), vs = [.ref p] ∧ BkAt C H p ys hk wt ∧ ys.Nodup ∧ (∀ s ∈ ys, s ∈ pool) ∧ LamX.Tabs [(Pt, qR)] H ∧ ∀ H', LamX.ExtN H H' → LamX.Tabs [(Pt, qR)] H' → Q (.bl true) H'
theorem ok_refuses (T : Txt K mg A) {oc kW doc pm ct : Value} {od an : Option Addr} {osl : Array (Option Value)} {c0 Pt : Addr} (lk : K.lookup A.a__law_refuses = some ⟨oc, od, .func (PySem.W.fnOf "_law_refuses" "_law_refuses" (defArgs s__law_refuses) (defBody s__law_refuses) (defScope s__law_refuses) .none kW doc pm an (.ref c0) ct), osl⟩) (hcd : PySem.W.codeIn K (.ref c0) "_law_refuses" = true)
    (TB : LamX.TabB base mg c0 Pt) : FnOk P w K mg base CX0 12 A.a__law_refuses A.d__law_refuses P__law_refuses (spRefuses A.a_Book Pt) := by
  have G__law_same : FnOk P w K mg base CX0 6 A.a__law_same A.d__law_same P__law_same (spTri K 4) := ok_tri T 3
  have G_Book_wait : FnOk P w K mg base (L2.CX P w) 8 A.a_Book_wait A.d_Book_wait P_Book_wait (spBWait K 4 A.a_Book A.a_NoDish) := ok_bwait T 4
  have G_Book___getitem__ : FnOk P w K mg base (L2.CX P w) 8 A.a_Book___getitem__ A.d_Book___getitem__ P_Book___getitem__ (spBItem K 4 A.a_Book A.a_NoDish) := ok_bitem T 4
  have G_Book_added : FnOk P w K mg base (L2.CX P w) 8 A.a_Book_added A.d_Book_added P_Book_added (spBAdded K 4 A.a_Book A.a_NoDish) := ok_badded T 4
  obtain ⟨ocT, odT, kVT, docT, pmT, anT, cdT, ctT, oslT, eT, lkT, hcT⟩ := T.f__law_tried.ex
  have hbT := T.b__law_tried
  rw [eT] at lkT hbT
  obtain ⟨ocR, odR, kVR, docR, pmR, anR, cdR, ctR, oslR, eR, lkR, hcR⟩ := T.f__law_refuses.ex
  have eF : A.d__law_refuses = PySem.W.fnOf "_law_refuses" "_law_refuses" (defArgs s__law_refuses) (defBody s__law_refuses) (defScope s__law_refuses) .none kW doc pm an (.ref c0) ct := by
    have z := Option.some.inj (lk.symm.trans lkR)
    have z2 := congrArg Obj.data z
    injection z2 with z3
    exact z3.symm
  rw [eF]
  refine fn_of lk hcd sc__law_refuses (fun vs H Q E h => ?_) (fun A' outer s H vs Q E hr h => ?_)
  · obtain ⟨p, ys, hk, wt, rfl, _⟩ := h
    rfl
  · obtain ⟨p, ys, hk, wt, rfl, B, nd, hpool, hT, k⟩ := h
    refine ⟨_, PSs.nox (pss_cons (ps_for PassesOwn.never rfl (pi_list (pe_lst (pa_cons pe_str (pa_cons pe_str (pa_cons pe_str (pa_cons pe_non (pa_cons pe_int (pa_cons (pe_lst pa_nil) (pa_cons (pe_tup (pa_cons pe_str pa_nil)) (pa_cons pe_dnewK (pa_cons pe_bl pa_nil))))))))))) (pg_name (i := 1) sc__law_refuses.nd rfl (Or.inr rfl))
 (pss_cons (ps_set (i := 2) sc__law_refuses.nd rfl (Or.inl rfl) (pe_lst (pa_cons (LamX.pe_lamcall (k := 9) (T := [(Pt, qR)]) (by rfl) T.g__law_tried T.f__law_tried.kp lkT hcT hbT sc__law_tried rfl (Or.inl rfl) (tried_gives T) TB rfl (List.mem_singleton.mpr rfl) (fun p hp _ => by rw [List.mem_singleton.mp hp]; rfl) (hr.mono (by omega)) (show LamX.LamS (defScope s__law_refuses) _ from LamX.lamS_by (by decide +kernel)) rfl (fun _ _ _ _ _ => rfl) (fun A2 o2 s2 H2 E2 f2 c2 hr2 => Own.pe_itm (pv 0) G_Book___getitem__ T.m_itm.1 T.m_itm.2.1 T.m_itm.2.2 T.b_Book___getitem__ (passes_call (takes_of rfl rfl rfl rfl) (fun _ _ _ _ h => h)) (hr2.mono (by omega)) (pv 1) (fun _ _ => rfl))) pa_nil)))
 (pss_cons (ps_expr (pe_bm PySem.F.plainAttrs_list PySem.F.slot_list_append PySem.F.type_list_append mt_append (pv 2) (pa_cons (LamX.pe_lamcall (k := 9) (T := [(Pt, qR)]) (by rfl) T.g__law_tried T.f__law_tried.kp lkT hcT hbT sc__law_tried rfl (Or.inl rfl) (tried_gives T) TB rfl (List.mem_singleton.mpr rfl) (fun p hp _ => by rw [List.mem_singleton.mp hp]; rfl) (hr.mono (by omega)) (show LamX.LamS (defScope s__law_refuses) _ from LamX.lamS_by (by decide +kernel)) rfl (fun _ _ _ _ _ => rfl) (fun A2 o2 s2 H2 E2 f2 c2 hr2 => pe_meth (pv 0) T.cl_B T.m_wait G_Book_wait (hr2.mono (by omega)) T.b_Book_wait .nil (passes_call (takes_of rfl rfl rfl rfl) (fun _ _ _ _ h => h)) (pa_cons (pv 1) pa_nil))) pa_nil)))
 (pss_cons (ps_expr (pe_bm PySem.F.plainAttrs_list PySem.F.slot_list_append PySem.F.type_list_append mt_append (pv 2) (pa_cons (LamX.pe_lamcall (k := 9) (T := [(Pt, qR)]) (by rfl) T.g__law_tried T.f__law_tried.kp lkT hcT hbT sc__law_tried rfl (Or.inl rfl) (tried_gives T) TB rfl (List.mem_singleton.mpr rfl) (fun p hp _ => by rw [List.mem_singleton.mp hp]; rfl) (hr.mono (by omega)) (show LamX.LamS (defScope s__law_refuses) _ from LamX.lamS_by (by decide +kernel)) rfl (fun _ _ _ _ _ => rfl) (fun A2 o2 s2 H2 E2 f2 c2 hr2 => pe_meth (pv 0) T.cl_B T.m_added G_Book_added (hr2.mono (by omega)) T.b_Book_added .nil (passes_call (takes_of rfl rfl rfl rfl) (fun _ _ _ _ h => h)) (pa_cons (pv 1) pa_nil))) pa_nil)))
 (pss_one (ps_if (pt_not (pt_val (pe_call G__law_same (hr.mono (by omega)) (by rfl) T.g__law_same T.f__law_same.kp T.b__law_same .nil pass0 (pa_cons (pv 2) (pa_cons (pe_op op_rep (pe_lst (pa_cons (pe_tup (pa_cons pe_str (pa_cons (pv 1) pa_nil))) pa_nil)) pe_int) pa_nil)))))
 (pss_one (ps_ret pe_bl))
 pss_nil))))))
 (pss_one (ps_ret pe_bl))), ?_⟩
    refine ⟨Nat.zero_le _, fun l nl => ⟨by show 1 ≤ sizeLine; decide, fun t ntt d ndd => ⟨by show 9 ≤ sizeLine; decide, fun L nL => ?_⟩⟩⟩
    have S0 : Same H (upd (upd (upd (upd H l (.lst [])) t (.tup [.str "rice"])) d (.dK [])) L (.lst [.str "late", .str "clock", .str "", .non, .int 5, .ref l, .ref t, .ref d, .bl true])) := (((Same.new nl).trans (Same.new ntt)).trans (Same.new ndd)).trans (Same.new nL)
    have fl : upd (upd (upd (upd H l (.lst [])) t (.tup [.str "rice"])) d (.dK [])) L (.lst [.str "late", .str "clock", .str "", .non, .int 5, .ref l, .ref t, .ref d, .bl true]) l = some (.lst []) := Same.new nL _ _ (Same.new ndd _ _ (Same.new ntt _ _ upd_same))
    have ft : upd (upd (upd (upd H l (.lst [])) t (.tup [.str "rice"])) d (.dK [])) L (.lst [.str "late", .str "clock", .str "", .non, .int 5, .ref l, .ref t, .ref d, .bl true]) t = some (.tup [.str "rice"]) := Same.new nL _ _ (Same.new ndd _ _ upd_same)
    have fd : upd (upd (upd (upd H l (.lst [])) t (.tup [.str "rice"])) d (.dK [])) L (.lst [.str "late", .str "clock", .str "", .non, .int 5, .ref l, .ref t, .ref d, .bl true]) d = some (.dK []) := Same.new nL _ _ upd_same
    have fL : upd (upd (upd (upd H l (.lst [])) t (.tup [.str "rice"])) d (.dK [])) L (.lst [.str "late", .str "clock", .str "", .non, .int 5, .ref l, .ref t, .ref d, .bl true]) L = some (.lst [.str "late", .str "clock", .str "", .non, .int 5, .ref l, .ref t, .ref d, .bl true]) := upd_same
    generalize upd (upd (upd (upd H l (.lst [])) t (.tup [.str "rice"])) d (.dK [])) L (.lst [.str "late", .str "clock", .str "", .non, .int 5, .ref l, .ref t, .ref d, .bl true]) = H1 at S0 fl ft fd fL ⊢
    clear nl ntt ndd nL
    have hT1 : LamX.Tabs [(Pt, qR)] H1 := hT.ext S0
    have fl := nt_of fl (fun _ z => nomatch z)
    have ft := nt_of ft (fun _ z => nomatch z)
    have fd := nt_of fd (fun _ z => nomatch z)
    have fL := nt_of fL (fun _ z => nomatch z)
    have fB := (B.up S0).nt
    refine ⟨L, rfl, ⟨_, SqL.of (nt_some fL)⟩, for_it (walk_list (K := K) (a := L)) (fun j σ' H' => ∃ v1 v2, σ' = [some (.ref p), v1, v2] ∧ Same (nt H1) (nt H') ∧ LamX.Tabs [(Pt, qR)] H')
      ⟨_, _, rfl, Same.refl _, hT1⟩ (fun j σ' H' _ ⟨_, _, _, z, _⟩ => SqL.of (nt_some (z _ _ fL))) ?_ ?_⟩
    · rintro j x σ' H' H'' hj ⟨v1, v2, rfl, sE, tb⟩ ⟨rfl, hx⟩
      have hx := List.mem_of_getElem? hx
      -- book[odd]
      refine ⟨tb, fun G1 eN T1 => ?_⟩
      have s1 := sE.trans (nt_ext eN)
      have B1 := (fB.up s1).up nt_same
      obtain ⟨dx, qh, qw, hp, _⟩ := id B1.ex
      have od := odd_ok (K := K) (G := G1) (H := G1) (rs := rowsF ys hk) (Same.refl _) (nt_some (s1 _ _ fl)) (nt_some (s1 _ _ ft)) (nt_some (s1 _ _ fd)) (fun s h => hpool s (by rw [ksR_F] at h; exact h)) hx
      refine ⟨_, rfl, _, rfl, p, dx, _, rfl, hp, p, ys, hk, wt, x, rfl, B1.r, nd, .inr ⟨G1, od.1, od.2, fun y1 dd G2 s2 hdd sd1 => ⟨rfl, dd, y1, rfl, hdd, fun t1 nt1 => ?_⟩⟩⟩
      have s3 := s2.trans (Same.new nt1 (o := .tup [.str "none", y1]))
      have A1 : AnsN K (upd G2 t1 (.tup [.str "none", y1])) x t1 := ⟨y1, upd_same, sd1 _ fun b u e _ => Same.new nt1 _ _ e⟩
      generalize upd G2 t1 (.tup [.str "none", y1]) = G3 at s3 A1 ⊢
      have T3 := T1.ext s3
      have s3 := s1.trans (nt_mono s3)
      refine ⟨by show 1 ≤ sizeLine; decide, fun M nM => ?_⟩
      have eM := nt_free s3 nM
      have s4 := Same.new nM (o := .lst [.ref t1])
      have hM : upd G3 M (.lst [.ref t1]) M = some (.lst [.ref t1]) := upd_same
      have A1 := A1.up (same_erp' nM (o := .lst [.ref t1]))
      have T4 := T3.ext s4
      have s4 := s3.trans (nt_mono s4)
      refine cast_heap (b := upd G3 M (.lst [.ref t1])) rfl ?_
      generalize upd G3 M (.lst [.ref t1]) = G4 at s4 hM A1 T4 ⊢
      clear B1 hp od s1 s2 hdd nt1 T3 s3 nM T1 eN sE tb sd1
      have eD : ∀ a o, nt H1 a = some o → ∀ G, Same (nt H1) (nt G) → er G M a = some o := fun a o e G s => er_of (ne_of_none e eM) (nt_some (s _ _ e))
      -- book.wait(odd)
      refine ⟨_, rfl, .inl ⟨rfl, _, SqL.of hM⟩, T4, fun G5 eN T5 => ?_⟩
      have s5 := s4.trans (nt_ext eN)
      have A1 := (A1.nt.up (nE_ext eN)).up nt_same
      have hM := eN _ _ hM (fun _ z => nomatch z)
      have B1 := (fB.up s5).up nt_same
      obtain ⟨dx, qh, qw, hp, _⟩ := id B1.ex
      have od := odd_ok (K := K) (G := er G5 M) (H := G5) (rs := rowsF ys hk) (er_same _ _) (eD _ _ fl _ s5) (eD _ _ ft _ s5) (eD _ _ fd _ s5) (fun s h => hpool s (by rw [ksR_F] at h; exact h)) hx
      refine ⟨_, rfl, p, dx, _, rfl, hp, rfl, _, rfl, p, ys, hk, wt, x, rfl, B1.r, nd, .inr ⟨er G5 M, od.1, od.2, fun y2 dd G6 s6 hdd sd2 => ⟨rfl, dd, y2, rfl, hdd, fun t2 nt2 => ?_⟩⟩⟩
      have s7 := s6.trans (Same.new nt2 (o := .tup [.str "none", y2]))
      have m2 : t2 ≠ M := (ne_of_none (s6 _ _ hM) nt2).symm
      have oldM : ∀ b, (er G5 M b ≠ none ∨ G5 b = none) → b ≠ M := fun b q e => by
        subst e
        rcases q with q | q
        · exact q (if_pos rfl)
        · rw [hM] at q; cases q
      have A2 : AnsN K (er (upd G6 t2 (.tup [.str "none", y2])) M) x t2 := ⟨y2, er_of m2 upd_same, sd2 _ fun b u e q => er_of (oldM b q) (Same.new nt2 _ _ e)⟩
      generalize upd G6 t2 (.tup [.str "none", y2]) = G7 at s7 A2 ⊢
      have T7 := T5.ext s7
      have A1 := A1.up (er_mono s7)
      have hM := s7 _ _ hM
      have s7 := s5.trans (nt_mono s7)
      refine ⟨M, _, _, rfl, rfl, hM, by show 1 < sizeLine; decide, ?_⟩
      have T8 := tab_set (ys := [.ref t1] ++ [.ref t2]) T7 hM
      have s8 := nt_upd (o := .lst ([.ref t1] ++ [.ref t2])) s7 eM
      rw [← er_upd G7 M (.lst ([.ref t1] ++ [.ref t2]))] at A1 A2
      have hM : upd G7 M (.lst ([.ref t1] ++ [.ref t2])) M = some (.lst [.ref t1, .ref t2]) := upd_same
      refine cast_heap (b := upd G7 M (.lst ([.ref t1] ++ [.ref t2]))) rfl ?_
      generalize upd G7 M (.lst ([.ref t1] ++ [.ref t2])) = G8 at s8 T8 A1 A2 hM ⊢
      clear B1 hp od s5 s6 hdd nt2 T7 s7 T5 eN sd2 oldM m2 s4 T4
      -- book.added(odd)
      refine ⟨_, rfl, .inl ⟨rfl, _, SqL.of hM⟩, T8, fun G9 eN T9 => ?_⟩
      have s9 := s8.trans (nt_ext eN)
      have A1 := (A1.nt.up (nE_ext eN)).up nt_same
      have A2 := (A2.nt.up (nE_ext eN)).up nt_same
      have hM := eN _ _ hM (fun _ z => nomatch z)
      have B1 := (fB.up s9).up nt_same
      obtain ⟨dx, qh, qw, hp, _⟩ := id B1.ex
      have od := odd_ok (K := K) (G := er G9 M) (H := G9) (rs := rowsF ys hk) (er_same _ _) (eD _ _ fl _ s9) (eD _ _ ft _ s9) (eD _ _ fd _ s9) (fun s h => hpool s (by rw [ksR_F] at h; exact h)) hx
      refine ⟨_, rfl, p, dx, _, rfl, hp, rfl, _, rfl, p, ys, hk, wt, x, rfl, B1.r, nd, .inr ⟨er G9 M, od.1, od.2, fun y3 dd G10 s10 hdd sd3 => ⟨rfl, dd, y3, rfl, hdd, fun t3 nt3 => ?_⟩⟩⟩
      have s11 := s10.trans (Same.new nt3 (o := .tup [.str "none", y3]))
      have m3 : t3 ≠ M := (ne_of_none (s10 _ _ hM) nt3).symm
      have oldM : ∀ b, (er G9 M b ≠ none ∨ G9 b = none) → b ≠ M := fun b q e => by
        subst e
        rcases q with q | q
        · exact q (if_pos rfl)
        · rw [hM] at q; cases q
      have A3 : AnsN K (er (upd G10 t3 (.tup [.str "none", y3])) M) x t3 := ⟨y3, er_of m3 upd_same, sd3 _ fun b u e q => er_of (oldM b q) (Same.new nt3 _ _ e)⟩
      generalize upd G10 t3 (.tup [.str "none", y3]) = G11 at s11 A3 ⊢
      have T11 := T9.ext s11
      have A1 := A1.up (er_mono s11)
      have A2 := A2.up (er_mono s11)
      have hM := s11 _ _ hM
      have s11 := s9.trans (nt_mono s11)
      refine ⟨M, _, _, rfl, rfl, hM, by show 2 < sizeLine; decide, ?_⟩
      have T12 := tab_set (ys := [.ref t1, .ref t2] ++ [.ref t3]) T11 hM
      have s12 := nt_upd (o := .lst ([.ref t1, .ref t2] ++ [.ref t3])) s11 eM
      rw [← er_upd G11 M (.lst ([.ref t1, .ref t2] ++ [.ref t3]))] at A1 A2 A3
      have hM : upd G11 M (.lst ([.ref t1, .ref t2] ++ [.ref t3])) M = some (.lst [.ref t1, .ref t2, .ref t3]) := upd_same
      refine cast_heap (b := upd G11 M (.lst ([.ref t1, .ref t2] ++ [.ref t3]))) rfl ?_
      generalize upd G11 M (.lst ([.ref t1, .ref t2] ++ [.ref t3])) = G12 at s12 T12 A1 A2 A3 hM ⊢
      clear B1 hp od s9 s10 hdd nt3 T11 s11 T9 eN sd3 oldM m3 s8 T8
      have A1 := A1.up (er_same _ _)
      have A2 := A2.up (er_same _ _)
      have A3 := A3.up (er_same _ _)
      -- what is due
      refine ⟨_, rfl, _, rfl, by show 2 ≤ sizeLine; decide, fun t4 nt4 => ⟨by show 1 ≤ sizeLine; decide, fun l4 nl4 => ?_⟩⟩
      have s13 := (Same.new nt4 (o := .tup [.str "none", x])).trans (Same.new nl4 (o := .lst [.ref t4]))
      have h4 : upd (upd G12 t4 (.tup [.str "none", x])) l4 (.lst [.ref t4]) t4 = some (.tup [.str "none", x]) := Same.new nl4 _ _ upd_same
      have hl4 : upd (upd G12 t4 (.tup [.str "none", x])) l4 (.lst [.ref t4]) l4 = some (.lst [.ref t4]) := upd_same
      generalize upd (upd G12 t4 (.tup [.str "none", x])) l4 (.lst [.ref t4]) = G13 at s13 h4 hl4 ⊢
      refine ⟨l4, 3, [.ref t4], rfl, rfl, hl4, by decide, by decide, by show 3 ≤ sizeLine; decide, fun R nR => ?_⟩
      have s14 := Same.new nR (o := .lst (List.replicate (3 : Int).toNat [V.ref t4]).flatten)
      have hR : upd G13 R (.lst (List.replicate (3 : Int).toNat [V.ref t4]).flatten) R = some (.lst [.ref t4, .ref t4, .ref t4]) := upd_same
      generalize upd G13 R (.lst (List.replicate (3 : Int).toNat [V.ref t4]).flatten) = G14 at s14 hR ⊢
      have S14 := s13.trans s14
      have A1 := A1.up S14
      have A2 := A2.up S14
      have A3 := A3.up S14
      have h4 := s14 _ _ h4
      have pr : ∀ t, AnsN K G14 x t → PrS K 4 G14 t t4 := fun t ⟨y, e1, e2⟩ => ⟨"none", y, x, e1, h4, sd_symm e2⟩
      refine ⟨M, R, [t1, t2, t3], [t4, t4, t4], rfl, SqL.of (S14 _ _ hM), SqL.of hR, rfl, by show 3 ≤ 64; omega, fun i a b ha hb => ?_, fun G15 s15 => ⟨_, rfl, iteF ?_⟩⟩
      · have eb : b = t4 := by
          have := List.mem_of_getElem? hb
          simpa using this
        subst eb
        have hm := List.mem_of_getElem? ha
        simp only [List.mem_cons, List.not_mem_nil, or_false] at hm
        rcases hm with e | e | e <;> subst e
        · exact pr _ A1
        · exact pr _ A2
        · exact pr _ A3
      · have S15 := S14.trans s15
        exact ⟨_, _, rfl, s12.trans (nt_mono S15), T12.ext S15⟩
    · rintro σ' H' ⟨v1, v2, rfl, sE, tb⟩
      exact k _ ((LamX.ExtN.of S0).trans (ext_nt sE)) tb
end
end K5
set_option Elab.async false
set_option linter.all false
set_option maxRecDepth 100000
set_option maxHeartbeats 4000000
namespace K5
open PySem L2
local macro_rules | `(tactic| walk_at "rd1") => `(tactic| first
  | refine ⟨_, _, rfl, rfl, ?_⟩
  | refine ⟨_, _, _, _, rfl, rfl, SqL.of (by assumption), rfl, ?_⟩
  | refine ⟨_, _, _, _, rfl, rfl, (by assumption), rfl, ?_⟩
  | refine .inl ⟨_, rfl, ?_⟩
  | refine ⟨_, rfl, ?_⟩
  | refine ⟨(by unfold CMul; omega), ?_⟩
  | refine ⟨(by unfold CPow; omega), ?_⟩
  | refine ⟨(by (try dsimp only); omega), ?_⟩
  | refine ⟨(by unfold CDiv; omega), ?_⟩
  | fail "rd1")
local macro_rules | `(tactic| walk_at "rd") => `(tactic| repeat' (walk_at "rd1"))
section
variable {P : Program} {w : World} {K : PySem.W.Frag} {mg : Str → Option Value} {base : Heap} {A : Ad}

open Own
theorem ok_some (T : Txt K mg A) : FnOk P w K mg base CX0 2 A.a__law_some A.d__law_some P__law_some (spSome K) := by
  have G__law_take : FnOk P w K mg base CX0 1 A.a__law_take A.d__law_take P__law_take spTake := ok_take T
  refine T.f__law_some.ok sc__law_some (fun vs H Q E h => ?_) (fun cdv A' outer s H vs Q E hr h => ?_)
  · obtain ⟨st, c, t, ss, b, rfl, _⟩ := h
    rfl
  · obtain ⟨st, c, t, ss, b, rfl, S, hb, hS, hl, k⟩ := h
    refine ⟨_, (pss_one (ps_ret (pe_lc (own := [("_law_thing", 2)]) (g := gName 2) (by rfl) sc__law_some.nd (pi_list (pv 1)) (blkOk_by (N := N__law_some) (sc := defScope s__law_some) (by decide +kernel)) (fun _ _ _ _ _ => pg_name (i := 2) sc__law_some.nd rfl (Or.inl rfl)) (fun _ _ _ _ _ => pts_one (pt_cmpR op_eq (pe_call G__law_take (hr.mono (by omega)) (by rfl) T.g__law_take T.f__law_take.kp T.b__law_take .nil pass0 (pa_cons (pv 0) (pa_cons pe_int pa_nil))) pe_int (nomark _))) (fun _ _ _ _ _ => (pv 2))))), ?_⟩
    refine ⟨_, rfl, t, rfl, ⟨_, sqEr hS⟩, fun D hD => lc_list (K := K) (a := t) (xs := ss.map V.str)
      (fun i H' => ∃ ys : List Str, ys.Sublist (ss.take i) ∧ H' D = some (.lst (ys.map V.str)) ∧ Gs st c H H' (b + (i : Int))) ?_ ?_ ?_ ?_⟩
    · exact ⟨[], List.nil_sublist _, upd_same, by simpa using (Gs.refl S).new hD⟩
    · exact fun i H' _ ⟨_, _, _, g⟩ => sqEr (sqUp hS g.same)
    · rintro i x H' hx ⟨ys, hy, hD', g⟩
      have hi : i < ss.length := by
        have := (List.getElem?_eq_some_iff.mp hx).1
        rwa [List.length_map] at this
      have ex : x = V.str ss[i] := by
        rw [List.getElem?_map, List.getElem?_eq_getElem hi] at hx
        exact (Option.some.inj hx).symm
      subst ex
      have nD : D ≠ st := S.ne hD
      have eD : er H st D = none := er_none hD
      have hyl : ys.length ≤ 64 := Nat.le_trans hy.length_le (by rw [List.length_take]; omega)
      refine ⟨rfl, _, rfl, st, c, 2, _, rfl, g.sta, by omega, by omega, by omega, fun r o hr0 hr1 S' => ⟨rfl, _, rfl, ?_⟩⟩
      have g2 : Gs st c H (upd H' st o) (b + ((i + 1 : Nat) : Int)) := by
        have := g.trans (Gs.of_upd S')
        rwa [show b + (i : Int) + 1 = b + ((i + 1 : Nat) : Int) by omega] at this
      have hD2 : upd H' st o D = some (.lst (ys.map V.str)) := by rw [upd_ne nD]; exact hD'
      have et : ss.take (i + 1) = ss.take i ++ [ss[i]] := by rw [List.take_succ, List.getElem?_eq_getElem hi]; rfl
      refine ite2 (fun _ => ?_) (fun _ => ?_)
      · refine ⟨_, rfl, _, hD2, by rw [List.length_map]; exact Nat.lt_of_le_of_lt hyl (by decide), ys ++ [ss[i]], ?_, ?_, g2.set S.hc eD nD⟩
        · rw [et]; exact hy.append (List.Sublist.refl _)
        · rw [upd_same, List.map_append]; rfl
      · exact ⟨ys, by rw [et]; exact hy.trans (List.sublist_append_left _ _), hD2, g2⟩
    · rintro H' ⟨ys, hy, hD', g⟩
      rw [List.length_map, List.take_length] at hy
      exact k D ys H' hy (g.le (by rw [List.length_map]; omega) hb) (er_of (S.ne hD) hD') (er_none hD)
open LamX (Tabs TabS ExtN) in
structure Bd (st c Pt : Addr) (b : Int) (H : Hp) : Prop where
  sta : Sta H st c b
  tab : Tabs [(Pt, qR)] H
theorem tab_gs {st c Pt : Addr} {b : Int} {H H' : Hp} (S : Sta H st c b) (t : LamX.Tabs [(Pt, qR)] H) (s : Same (er H st) (er H' st)) : LamX.Tabs [(Pt, qR)] H' := fun p hp => by
  obtain ⟨ps, h1, h2, h3⟩ := t p hp
  obtain ⟨cs, i, l, m, n, e1, _⟩ := S.ex
  have up : ∀ x o, H x = some o → (∀ xs, o ≠ .lst xs) → H' x = some o := fun x o e ne => (er_same _ _) _ _ (s _ _ (er_of (fun z => by rw [z, e1] at e; exact ne _ (Option.some.inj e).symm) e))
  refine ⟨ps, up _ _ h1 (fun xs z => by cases z), h2, fun pos cv hc => ?_⟩
  obtain ⟨c2, e2, e3⟩ := h3 pos cv hc
  exact ⟨c2, e2, up _ _ e3 (fun xs z => by unfold LamX.CodeO at z; cases z)⟩
theorem Bd.gs {st c Pt : Addr} {b b' : Int} {H H' : Hp} (B : Bd st c Pt b H) (g : Gs st c H H' b') : Bd st c Pt b' H' := ⟨g.sta, tab_gs B.sta B.tab g.same⟩
theorem Bd.same {st c Pt : Addr} {b : Int} {H H' : Hp} (B : Bd st c Pt b H) (s : Same H H') : Bd st c Pt b H' := B.gs (Gs.of_same B.sta s)
theorem Bd.ext {st c Pt : Addr} {b : Int} {H H' : Hp} (B : Bd st c Pt b H) (e : LamX.ExtN H H') (t : LamX.Tabs [(Pt, qR)] H') : Bd st c Pt b H' := by
  obtain ⟨cs, i, l, m, n, e1, e2, r⟩ := B.sta.ex
  exact ⟨⟨cs, i, l, m, n, e _ _ e1 (fun _ z => by unfold five at z; cases z), er_of (er_some e2).1 (e _ _ (er_some e2).2 (fun _ z => by cases z)), r⟩, t⟩
theorem Bd.le {st c Pt : Addr} {b b' : Int} {H : Hp} (B : Bd st c Pt b H) (hb : b ≤ b') (h9 : b' ≤ 1000000) : Bd st c Pt b' H := ⟨B.sta.le hb h9, B.tab⟩
theorem putK_old {kvs : List (Key × V)} {k : Key} {v : V} (h : k ∈ kvs.map (·.1)) : putK kvs k v = kvs.map fun kv => if kv.1 = k then (kv.1, v) else kv := by
  unfold putK
  rw [if_pos]
  obtain ⟨kv, m, e⟩ := List.mem_map.mp h
  exact List.any_eq_true.mpr ⟨kv, m, decide_eq_true e⟩
theorem Pr2.put {H : Hp} {ns : List Str} {f g : Str → V} {kvs : List (Key × V)} {n : Str} {a : Addr} {v : V} (h : Pr2 K H ns f g kvs) (m : n ∈ ns) (ha : SqT K H a [f n, v]) : Pr2 K H ns f (fun x => if x = n then v else g x) (putK kvs (.inr n) (.ref a)) := by
  rw [putK_old (by rw [h.keys]; exact List.mem_map.mpr ⟨n, m, rfl⟩)]
  refine ⟨?_, fun i x e => ?_⟩
  · rw [List.map_map, ← h.keys]
    refine List.map_congr_left fun kv _ => ?_
    show (if kv.1 = .inr n then (kv.1, V.ref a) else kv).1 = kv.1
    split <;> rfl
  · obtain ⟨b, e1, e2⟩ := h.at_ i x e
    rw [List.getElem?_map, e1]
    by_cases q : x = n
    · subst q
      refine ⟨a, ?_, ?_⟩
      · show some (if (Sum.inr x : Key) = Sum.inr x then _ else _) = _
        rw [if_pos rfl]
      · show SqT K H a [f x, if x = x then v else g x]
        rw [if_pos rfl]; exact ha
    · refine ⟨b, ?_, ?_⟩
      · show some (if (Sum.inr x : Key) = Sum.inr n then _ else _) = _
        rw [if_neg fun z => q (Sum.inr.inj z)]
      · show SqT K H b [f x, if x = n then v else g x]
        rw [if_neg q]; exact e2
theorem three_int {r : Int} {j : Nat} {v : V} (h0 : 0 ≤ r) (hv : [V.int 0, .int 99999999, .int r][j]? = some v) : ∃ m : Int, v = .int m ∧ 0 ≤ m := by
  have hm := List.mem_of_getElem? hv
  simp only [List.mem_cons, List.not_mem_nil, or_false] at hm
  rcases hm with e | e | e
  · exact ⟨_, e, by omega⟩
  · exact ⟨_, e, by omega⟩
  · exact ⟨_, e, h0⟩
structure PrG (R : Str → Addr → Prop) (ns : List Str) (kvs : List (Key × V)) : Prop where
  keys : kvs.map (·.1) = ns.map Sum.inr
  at_ : ∀ (i : Nat) (n : Str), ns[i]? = some n → ∃ a : Addr, kvs[i]? = some (.inr n, .ref a) ∧ R n a
theorem PrG.len {R : Str → Addr → Prop} {ns : List Str} {kvs : List (Key × V)} (h : PrG R ns kvs) : kvs.length = ns.length := by
  have := congrArg List.length h.keys
  rwa [List.length_map, List.length_map] at this
theorem PrG.nil {R : Str → Addr → Prop} : PrG R [] [] := ⟨rfl, fun i n e => by simp at e⟩
theorem PrG.imp {R S : Str → Addr → Prop} {ns : List Str} {kvs : List (Key × V)} (h : PrG R ns kvs) (f : ∀ n a, R n a → S n a) : PrG S ns kvs := ⟨h.keys, fun i n e => by
  obtain ⟨a, e1, e2⟩ := h.at_ i n e
  exact ⟨a, e1, f _ _ e2⟩⟩
theorem PrG.snoc {R : Str → Addr → Prop} {ns : List Str} {kvs : List (Key × V)} {n : Str} {a : Addr} (h : PrG R ns kvs) (ha : R n a) : PrG R (ns ++ [n]) (kvs ++ [(.inr n, .ref a)]) := by
  refine ⟨by rw [List.map_append, List.map_append, h.keys]; rfl, fun i m e => ?_⟩
  rcases Nat.lt_or_ge i ns.length with lt | ge
  · rw [List.getElem?_append_left lt] at e
    rw [List.getElem?_append_left (by rw [h.len]; exact lt)]
    exact h.at_ i m e
  · rw [List.getElem?_append_right ge] at e
    rw [List.getElem?_append_right (by rw [h.len]; exact ge), h.len]
    cases e0 : i - ns.length with
    | zero => rw [e0] at e; cases e; exact ⟨a, rfl, ha⟩
    | succ j => rw [e0] at e; simp at e
theorem PrG.vals {R : Str → Addr → Prop} {ns : List Str} {kvs : List (Key × V)} (h : PrG R ns kvs) : ∃ as : List Addr, kvs.map (·.2) = as.map V.ref ∧ as.length = ns.length ∧ ∀ a ∈ as, ∃ n ∈ ns, R n a := by
  have key : ∀ kv ∈ kvs, ∃ n a, n ∈ ns ∧ kv = ((.inr n : Key), V.ref a) ∧ R n a := fun kv m => by
    obtain ⟨i, hi, e⟩ := List.getElem_of_mem m
    have hi2 : i < ns.length := by rw [← h.len]; exact hi
    obtain ⟨a, e1, r⟩ := h.at_ i ns[i] (List.getElem?_eq_getElem hi2)
    rw [List.getElem?_eq_getElem hi, e] at e1
    exact ⟨_, a, List.getElem_mem hi2, Option.some.inj e1, r⟩
  refine ⟨kvs.map fun kv => match kv.2 with | .ref a => a | _ => 0, ?_, by rw [List.length_map, h.len], fun a m => ?_⟩
  · rw [List.map_map]
    exact List.map_congr_left fun kv m => by
      obtain ⟨n, a, _, e, _⟩ := key kv m
      rw [e]; rfl
  · obtain ⟨kv, m, e⟩ := List.mem_map.mp m
    obtain ⟨n, a2, mn, e2, r⟩ := key kv m
    rw [e2] at e
    exact ⟨n, mn, by rw [← (e : a2 = a)]; exact r⟩
/-- a list or a tuple of two, new -/
def LTu (H : Hp) (a : Addr) (x y : V) : Prop := H a = some (.lst [x, y]) ∨ H a = some (.tup [x, y])
theorem LTu.up {H H' : Hp} {a : Addr} {x y : V} (h : LTu H a x y) (s : Same H H') : LTu H' a x y := h.imp (s _ _) (s _ _)
theorem LTu.sq {H : Hp} {a : Addr} {x y : V} (h : LTu H a x y) : SqX K H a [x, y] := h.elim (fun e => .inl (SqL.of e)) (fun e => .inr (SqT.of e))
theorem LTu.some {H : Hp} {a : Addr} {x y : V} (h : LTu H a x y) : ∃ u, H a = Option.some u := h.elim (fun e => ⟨_, e⟩) (fun e => ⟨_, e⟩)
theorem LTu.ne {H : Hp} {a b : Addr} {x y : V} {u : HO} (h : LTu H a x y) (e : H b = Option.some u) (n1 : ∀ xs, u ≠ .lst xs) (n2 : ∀ xs, u ≠ .tup xs) : a ≠ b := fun z => by
  subst z
  rcases h with h | h
  · rw [e] at h; exact n1 _ (Option.some.inj h)
  · rw [e] at h; exact n2 _ (Option.some.inj h)
theorem LTu.set {H : Hp} {a b : Addr} {x y : V} {o : HO} (h : LTu H a x y) (n : a ≠ b) : LTu (upd H b o) a x y := by
  unfold LTu
  rw [upd_ne n]; exact h
theorem PrG.x {H : Hp} {hk : Str → Str} {wt : Str → Int} {ns : List Str} {kvs : List (Key × V)} (h : PrG (fun n a => LTu H a (.str (hk n)) (.int (wt n))) ns kvs) : PrX K H ns (fun n => .str (hk n)) (fun n => .int (wt n)) kvs := ⟨h.keys, fun i n e => by
  obtain ⟨a, e1, e2⟩ := h.at_ i n e
  exact ⟨a, e1, e2.sq⟩⟩
/-- what stands of a turn -/
structure Fk (K : PySem.W.Frag) (C : Addr) (E : Hp) (pn pr pu p : Addr) (ns ms ys : List Str) (hk : Str → Str) (wt : Str → Int) (kr : List (Key × V)) : Prop where
  n : E pn = some (.lst (ns.map V.str))
  r : E pr = some (.dK kr)
  rt : Pr2 K E ms (fun n => .str (hk n)) (fun n => .int (wt n)) kr
  u : E pu = some (.lst (ys.map V.str))
  b : BkAt C E p ys hk wt
theorem Fk.up {C : Addr} {E E' : Hp} {pn pr pu p : Addr} {ns ms ys : List Str} {hk : Str → Str} {wt : Str → Int} {kr : List (Key × V)} (h : Fk K C E pn pr pu p ns ms ys hk wt kr) (s : Same E E') : Fk K C E' pn pr pu p ns ms ys hk wt kr := ⟨s _ _ h.n, s _ _ h.r, h.rt.up s, s _ _ h.u, h.b.up s⟩
theorem LTu.bdt {H : Hp} {a : Addr} {x : Str} {y : Int} (h : LTu H a (.str x) (.int y)) : BdT 2 H a := by
  have at_ : ∀ z ∈ [V.str x, .int y], Atm z := fun z m => by
    simp only [List.mem_cons, List.not_mem_nil, or_false] at m
    rcases m with e | e
    · exact .inl ⟨_, e⟩
    · exact .inr ⟨_, e⟩
  exact h.imp (fun e => ⟨_, e, at_, Nat.le_refl _⟩) (fun e => ⟨_, e, at_⟩)
theorem BkAt.wt {C : Addr} {H : Hp} {p : Addr} {ys : List Str} {hk : Str → Str} {wt wu : Str → Int} (h : BkAt C H p ys hk wt) (e : ∀ n ∈ ys, wt n = wu n) : BkAt C H p ys hk wu := by
  obtain ⟨dx, qh, qw, e1, e2, e3⟩ := h.ex
  refine ⟨dx, qh, qw, e1, e2, e3.trans (congrArg (fun z => some (HO.dK z)) ?_)⟩
  exact List.map_congr_left fun n m => by show ((.inr n : Key), V.int (wt n)) = (.inr n, V.int (wu n)); rw [e n m]
def sums2 (S : Str → Int) (n : Str) : Int := if n = "late" then 3 else if n = "clock" then 7 else S n
theorem sums2_kvs {zs : List Str} {S : Str → Int} (n1 : ("late" : Str) ∉ zs) (n2 : ("clock" : Str) ∉ zs) : kvF (zs ++ [("late" : Str), "clock"]) (fun n => .int (sums2 S n)) = kvF zs (fun n => .int (S n)) ++ [((.inr "late" : Key), V.int 3), (.inr "clock", .int 7)] := by
  unfold kvF
  rw [List.map_append]
  refine congr (congrArg _ (List.map_congr_left fun n m => ?_)) ?_
  · show ((.inr n : Key), V.int (sums2 S n)) = (.inr n, .int (S n))
    unfold sums2
    rw [if_neg fun e => n1 (by rw [← e]; exact m), if_neg fun e => n2 (by rw [← e]; exact m)]
  · show [((.inr "late" : Key), V.int (sums2 S "late")), (.inr "clock", .int (sums2 S "clock"))] = _
    unfold sums2
    rw [if_pos rfl, if_neg (show ¬ ("clock" : Str) = "late" by decide +kernel), if_pos rfl]
abbrev qqR (rows : Rows) : Rows := rows ++ [(("qq" : Str), ("clock" : Str))]
theorem qq_ok {rk : Str → Nat} {rows : Rows} (h : ("qq" : Str) ∉ ksR rows) (O : ROk rk rows) (t : Tree rows) (l : rows.length < 63) : ROk (fun s => (ksR (qqR rows)).idxOf s) (qqR rows) :=
  ROk.tree (by
    rw [ksR_app, List.nodup_append]
    exact ⟨O.nd, by simp, fun x hx y hy e => h (by rw [← List.mem_singleton.mp hy, ← e]; exact hx)⟩) (fun s m => by
    rw [ksR_app] at m
    rcases List.mem_append.mp m with m | m
    · exact O.nm s m
    · rw [List.mem_singleton.mp m]; exact ⟨qq_nm, by decide +kernel⟩) (by rw [List.length_append, List.length_singleton]; omega) (t.app (.inl rfl))
theorem Pr2.snocQ {H : Hp} {ns : List Str} {f g : Str → V} {kvs : List (Key × V)} {n : Str} {a : Addr} {x y : V} (h : Pr2 K H ns f g kvs) (nq : n ∉ ns) (ha : SqT K H a [x, y]) : Pr2 K H (ns ++ [n]) (fun m => if m = n then x else f m) (fun m => if m = n then y else g m) (putK kvs (.inr n) (.ref a)) := by
  rw [put_new _ _ _ (by
    rw [h.keys]
    intro m
    obtain ⟨z, hz, ez⟩ := List.mem_map.mp m
    exact nq (by rw [← Sum.inr.inj ez]; exact hz))]
  refine Pr2.snoc (h.congr fun m mm => ?_) ?_
  · have ne : ¬ m = n := fun e => nq (by rw [← e]; exact mm)
    exact ⟨(if_neg ne).symm, (if_neg ne).symm⟩
  · show SqT K H a [if n = n then x else f n, if n = n then y else g n]
    rw [if_pos rfl, if_pos rfl]; exact ha
/-- a book that is another one -/
def OthB (C : Addr) (E : Hp) (ys : List Str) (hk : Str → Str) (wt : Str → Int) (b : Addr) : Prop := ∃ ys' hk' wt', BkAt C E b ys' hk' wt' ∧ eqBk ys ys' hk hk' wt wt' = false ∧ eqBk ys' ys hk' hk wt' wt = false
theorem OthB.up {C : Addr} {E E' : Hp} {ys : List Str} {hk : Str → Str} {wt : Str → Int} {b : Addr} (h : OthB C E ys hk wt b) (s : Same E E') : OthB C E' ys hk wt b := by
  obtain ⟨y, k, w, h1, h2⟩ := h
  exact ⟨y, k, w, h1.up s, h2⟩
theorem BkAt.lset {C : Addr} {H : Hp} {p L : Addr} {xs zs : List V} {ys : List Str} {hk : Str → Str} {wt : Str → Int} (h : BkAt C H p ys hk wt) (hL : H L = some (.lst xs)) : BkAt C (upd H L (.lst zs)) p ys hk wt := by
  obtain ⟨dx, qh, qw, e1, e2, e3⟩ := h.ex
  have ne : ∀ {b : Addr} {u : HO}, H b = some u → (∀ xs, u ≠ .lst xs) → upd H L (.lst zs) b = some u := fun e h => by
    rw [upd_ne fun z => ?_]
    · exact e
    · rw [z, hL] at e; exact h _ (Option.some.inj e).symm
  exact ⟨dx, qh, qw, ne e1 (fun _ z => nomatch z), ne e2 (fun _ z => nomatch z), ne e3 (fun _ z => nomatch z)⟩
theorem OthB.lset {C : Addr} {H : Hp} {L : Addr} {xs zs : List V} {ys : List Str} {hk : Str → Str} {wt : Str → Int} {b : Addr} (h : OthB C H ys hk wt b) (hL : H L = some (.lst xs)) : OthB C (upd H L (.lst zs)) ys hk wt b := by
  obtain ⟨y, k, w, h1, h2⟩ := h
  exact ⟨y, k, w, h1.lset hL, h2⟩
theorem paired_rev {α β : Type} {R : α → β → Prop} : ∀ {xs : List α} {ys : List β}, Paired R xs ys → Paired R xs.reverse ys.reverse
  | _, _, .nil => .nil
  | _, _, .cons a b => by
    rw [List.reverse_cons, List.reverse_cons]
    exact paired_snoc (paired_rev b) a
theorem Pr2.rev {H : Hp} {ns : List Str} {f g : Str → V} {kvs : List (Key × V)} (h : Pr2 K H ns f g kvs) : Pr2 K H ns.reverse f g kvs.reverse := by
  refine ⟨by rw [List.map_reverse, List.map_reverse, h.keys], fun i n e => ?_⟩
  have hi : i < ns.length := by
    have := (List.getElem?_eq_some_iff.mp e).1
    rwa [List.length_reverse] at this
  rw [List.getElem?_reverse hi] at e
  rw [List.getElem?_reverse (by rw [h.len]; exact hi), h.len]
  exact h.at_ _ _ e
theorem any_false (n : Nat) : (List.replicate n false).any id = false := by
  induction n with
  | zero => rfl
  | succ n ih => rw [List.replicate_succ, List.any_cons, ih]; rfl
def spLawT (K : PySem.W.Frag) (Pt : Addr) : Sp := fun vs H Q _ => ∃ (a : Addr) (ns : List Int), vs = [.ref a] ∧ SqL K H a (ns.map V.int) ∧ ns.length ≤ 63 ∧ LamX.Tabs [(Pt, qR)] H ∧ ∀ H', Q (.bl true) H'
theorem ok_lawT (T : Txt K mg A) {oc kW doc pm ct : Value} {od an : Option Addr} {osl : Array (Option Value)} {c0 Pt : Addr} (lk : K.lookup A.a__law_refuses = some ⟨oc, od, .func (PySem.W.fnOf "_law_refuses" "_law_refuses" (defArgs s__law_refuses) (defBody s__law_refuses) (defScope s__law_refuses) .none kW doc pm an (.ref c0) ct), osl⟩) (hcd : PySem.W.codeIn K (.ref c0) "_law_refuses" = true)
    (TB : LamX.TabB base mg c0 Pt) : FnOk P w K mg base CX0 14 A.a_law A.d_law P_law (spLawT K Pt) := by
  have G__law_fresh : FnOk P w K mg base CX0 1 A.a__law_fresh A.d__law_fresh P__law_fresh (spFresh K) := ok_fresh T
  have G__law_take : FnOk P w K mg base CX0 1 A.a__law_take A.d__law_take P__law_take spTake := ok_take T
  have G__law_one : FnOk P w K mg base CX0 2 A.a__law_one A.d__law_one P__law_one (spOne K) := ok_one T
  have G__law_mix : FnOk P w K mg base CX0 2 A.a__law_mix A.d__law_mix P__law_mix (spMix K) := ok_mix T
  have G__law_some : FnOk P w K mg base CX0 2 A.a__law_some A.d__law_some P__law_some (spSome K) := ok_some T
  have G__law_names : FnOk P w K mg base CX0 3 A.a__law_names A.d__law_names P__law_names (spNames K) := ok_names T
  have G__law_hung : FnOk P w K mg base CX0 3 A.a__law_hung A.d__law_hung P__law_hung (spHung K) := ok_hung T
  have G__law_rising : FnOk P w K mg base CX0 1 A.a__law_rising A.d__law_rising P__law_rising (spRising K) := ok_rising T
  have G__law_waiting : FnOk P w K mg base CX0 2 A.a__law_waiting A.d__law_waiting P__law_waiting (spWaiting K) := ok_waiting T
  have G__law_with : FnOk P w K mg base CX0 1 A.a__law_with A.d__law_with P__law_with spWith := ok_with T
  have G__law_loose : FnOk P w K mg base CX0 2 A.a__law_loose A.d__law_loose P__law_loose (spLoose K) := ok_loose T
  have G__law_bend : FnOk P w K mg base CX0 3 A.a__law_bend A.d__law_bend P__law_bend spBend2 := ok_bend2 T
  have G__law_sum : FnOk P w K mg base CX0 1 A.a__law_sum A.d__law_sum P__law_sum (spSum K) := ok_sum T
  have G__law_tells : FnOk P w K mg base CX0 8 A.a__law_tells A.d__law_tells P__law_tells (spTells K A.a_Book) := ok_tells T
  have G__law_refuses : FnOk P w K mg base CX0 12 A.a__law_refuses A.d__law_refuses P__law_refuses (spRefuses A.a_Book Pt) := ok_refuses T lk hcd TB
  have G_Book_rows : FnOk P w K mg base CX0 1 A.a_Book_rows A.d_Book_rows P_Book_rows (spBRows K A.a_Book) := ok_brows T
  have G_Book___init__ : FnOk P w K mg base CX0 5 A.a_Book___init__ A.d_Book___init__ P_Book___init__ (spBInit K A.a_Book) := ok_binit T
  have G_Book_hanging : FnOk P w K mg base CX0 6 A.a_Book_hanging A.d_Book_hanging P_Book_hanging (spBHang K A.a_Book A.a_Hanging) := ok_bhang T
  have G_Book___eq__ : FnOk P w K mg base CX0 1 A.a_Book___eq__ A.d_Book___eq__ P_Book___eq__ (spBEq A.a_Book) := ok_beq T
  have G_Book_of : FnOk P w K mg base CX0 7 A.a_Book_of A.d_Book_of P_Book_of (spOf K A.a_Book A.a_Hanging) := ok_of T
  refine T.f_law.ok sc_law (fun vs H Q E h => ?_) (fun cdv A' outer s H vs Q E hr h => ?_)
  · obtain ⟨a, ns, rfl, _⟩ := h
    rfl
  · obtain ⟨a, ns, rfl, hS, hlen, hT, k⟩ := h
    refine ⟨_, (pss_cons (ps_set (i := 1) sc_law.nd rfl (Or.inr rfl) (pe_call G__law_fresh (hr.mono (by omega)) (by rfl) T.g__law_fresh T.f__law_fresh.kp T.b__law_fresh .nil pass0 (pa_cons (pv 0) pa_nil)))
 (pss_cons (ps_for PassesOwn.never rfl (pi_range1 (by rfl) T.range (pa_cons pe_int pa_nil)) (pg_name (i := 2) sc_law.nd rfl (Or.inl rfl))
 (pss_cons (ps_set (i := 3) sc_law.nd rfl (Or.inl rfl) (pe_call G__law_names (hr.mono (by omega)) (by rfl) T.g__law_names T.f__law_names.kp T.b__law_names .nil pass0 (pa_cons (pv 1) (pa_cons (pe_call G__law_take (hr.mono (by omega)) (by rfl) T.g__law_take T.f__law_take.kp T.b__law_take .nil pass0 (pa_cons (pv 1) (pa_cons pe_int pa_nil))) pa_nil))))
 (pss_cons (ps_set (i := 4) sc_law.nd rfl (Or.inr rfl) (pe_call G__law_waiting (hr.mono (by omega)) (by rfl) T.g__law_waiting T.f__law_waiting.kp T.b__law_waiting .nil pass0 (pa_cons (pv 1) (pa_cons (pe_call G__law_hung (hr.mono (by omega)) (by rfl) T.g__law_hung T.f__law_hung.kp T.b__law_hung .nil pass0 (pa_cons (pv 1) (pa_cons (pv 3) pa_nil))) pa_nil))))
 (pss_cons (ps_for PassesOwn.never rfl (pi_list (pe_call G__law_some (hr.mono (by omega)) (by rfl) T.g__law_some T.f__law_some.kp T.b__law_some .nil pass0 (pa_cons (pv 1) (pa_cons (pv 3) pa_nil)))) (pg_name (i := 5) sc_law.nd rfl (Or.inl rfl))
 (pss_one (ps_dput (hu_of hr) (pv 4) (pv 5) (pe_tup (pa_cons (pe_ix ix_tup (pe_dget (hu_of hr) (pv 4) (pv 5) (fun _ _ => rfl)) pe_int (fun _ _ => rfl)) (pa_cons (pe_call G__law_one (hr.mono (by omega)) (by rfl) T.g__law_one T.f__law_one.kp T.b__law_one .nil pass0 (pa_cons (pv 1) (pa_cons (pe_lst (pa_cons pe_int (pa_cons pe_int (pa_cons (pe_call G__law_take (hr.mono (by omega)) (by rfl) T.g__law_take T.f__law_take.kp T.b__law_take .nil pass0 (pa_cons (pv 1) (pa_cons pe_int pa_nil))) pa_nil)))) pa_nil))) pa_nil))) rfl)))
 (pss_cons (ps_par (i := 6) (j := 7) (by rfl) sc_law.nd rfl rfl (by decide) rfl rfl (pa_cons (pe_callTy (call_dictP rfl) (by rfl) T.dict (by decide +kernel) (pa_cons (pe_lock (pe_lc (own := [("_law_name", 5)]) (g := gName 5) (by rfl) sc_law.nd (pi_keys (pv 4)) (blkOk_by (N := N_law) (sc := defScope s_law) (by decide +kernel)) (fun _ _ _ _ _ => pg_name (i := 5) sc_law.nd rfl (Or.inl rfl)) (fun _ _ _ _ _ => pts_nil) (fun _ _ _ _ _ => (pe_tup (pa_cons (pv 5) (pa_cons (pe_call G__law_loose (hr.mono (by omega)) (by rfl) T.g__law_loose T.f__law_loose.kp T.b__law_loose .nil pass0 (pa_cons (pv 1) (pa_cons (pe_dget (hu_of hr) (pv 4) (pv 5) (fun _ _ => rfl)) pa_nil))) pa_nil)))))) pa_nil)) (pa_cons (pe_call G__law_rising (hr.mono (by omega)) (by rfl) T.g__law_rising T.f__law_rising.kp T.b__law_rising .nil pass0 (pa_cons (pv 3) pa_nil)) pa_nil)) (by rfl))
 (pss_cons (ps_set (i := 8) sc_law.nd rfl (Or.inr rfl) (pe_make T.mkB G_Book___init__ (hr.mono (by omega)) (by rfl) T.g_Book T.b_Book___init__ .nil pass0 (pa_cons (pv 6) pa_nil)))
 (pss_cons (ps_expr (pe_call G__law_bend (hr.mono (by omega)) (by rfl) T.g__law_bend T.f__law_bend.kp T.b__law_bend .nil pass0 (pa_cons (Own.pe_listVals rfl (by rfl) T.list (pv 6)) pa_nil)))
 (pss_cons (ps_dput (hu_of hr) (pv 6) pe_str (pe_tup (pa_cons pe_str (pa_cons pe_int pa_nil))) rfl)
 (pss_cons (ps_if (pt_not (pt_val (pe_call G__law_tells (hr.mono (by omega)) (by rfl) T.g__law_tells T.f__law_tells.kp T.b__law_tells .nil pass0 (pa_cons (pv 8) (pa_cons (pv 4) (pa_cons (pv 7) pa_nil))))))
 (pss_one (ps_ret pe_bl))
 pss_nil)
 (pss_cons (ps_set (i := 9) sc_law.nd rfl (Or.inl rfl) (pe_meth0 (pv 8) T.cl_B T.m_rowsB G_Book_rows (hr.mono (by omega)) T.b_Book_rows .nil pass0))
 (pss_cons (ps_dput (hu_of hr) (pv 9) pe_str (pe_tup (pa_cons pe_str (pa_cons pe_int pa_nil))) rfl)
 (pss_cons (ps_if (pt_not (pt_val (pe_call G__law_tells (hr.mono (by omega)) (by rfl) T.g__law_tells T.f__law_tells.kp T.b__law_tells .nil pass0 (pa_cons (pv 8) (pa_cons (pv 4) (pa_cons (pv 7) pa_nil))))))
 (pss_one (ps_ret pe_bl))
 pss_nil)
 (pss_cons (ps_if (pt_not (pt_val (pe_call G__law_refuses (hr.mono (by omega)) (by rfl) T.g__law_refuses T.f__law_refuses.kp T.b__law_refuses .nil pass0 (pa_cons (pv 8) pa_nil))))
 (pss_one (ps_ret pe_bl))
 pss_nil)
 (pss_cons (ps_setLc (i := 10) (own := [("_law_name", 5)]) (g := gName 5)  (by rfl) sc_law.nd rfl rfl (sw_true rfl rfl rfl (by decide +kernel)) (pi_list (pe_call G__law_mix (hr.mono (by omega)) (by rfl) T.g__law_mix T.f__law_mix.kp T.b__law_mix .nil pass0 (pa_cons (pv 1) (pa_cons (pv 3) pa_nil)))) (blkOk_by (N := N_law) (sc := defScope s_law) (by decide +kernel)) (fun _ _ _ _ _ => pg_name (i := 5) sc_law.nd rfl (Or.inl rfl)) (fun _ _ _ _ _ => pts_nil) (fun _ _ _ _ _ => (pe_tup (pa_cons (pv 5) (pa_cons (pe_call G__law_sum (hr.mono (by omega)) (by rfl) T.g__law_sum T.f__law_sum.kp T.b__law_sum .nil pass0 (pa_cons (pv 4) (pa_cons (pv 5) pa_nil))) pa_nil)))))
 (pss_cons (ps_set (i := 11) sc_law.nd rfl (Or.inl rfl) (pe_callTy (call_dictP rfl) (by rfl) T.dict (by decide +kernel) (pa_cons (pe_op op_cat (pv 10) (pe_lst (pa_cons (pe_tup (pa_cons pe_str (pa_cons pe_int pa_nil))) (pa_cons (pe_tup (pa_cons pe_str (pa_cons pe_int pa_nil))) pa_nil)))) pa_nil)))
 (pss_cons (ps_if (PW.pt (pw_or (pt_cmpR (Own.op_neOwn G_Book___eq__ T.nEB T.mOB T.m_eqB.at_ T.m_eqB.fn T.b_Book___eq__ pass0 (hr.mono (by omega))) (Own.pe_stm (pe_glob (v := .ref A.a_Book) (by rfl) T.g_Book rfl) T.stO G_Book_of (hr.mono (by omega)) T.b_Book_of pass0 (pa_cons (pe_meth0 (pv 8) T.cl_B T.m_hanging G_Book_hanging (hr.mono (by omega)) T.b_Book_hanging .nil pass0) (pa_cons (pv 11) pa_nil))) (pv 8) (nomark _)) (pw_or1 (pt_not (pt_val (pe_callB call_isi (by rfl) T.isinstance (by decide +kernel) (pa_cons (Own.pe_stm (pe_glob (v := .ref A.a_Book) (by rfl) T.g_Book rfl) T.stO G_Book_of (hr.mono (by omega)) T.b_Book_of pass0 (pa_cons (pe_meth0 (pv 8) T.cl_B T.m_hanging G_Book_hanging (hr.mono (by omega)) T.b_Book_hanging .nil pass0) (pa_cons (pv 11) pa_nil))) (pa_cons (pe_glob (v := .ref A.a_Book) (by rfl) T.g_Book rfl) pa_nil))))))))
 (pss_one (ps_ret pe_bl))
 pss_nil)
 (pss_cons (ps_set (i := 12) sc_law.nd rfl (Or.inl rfl) (pe_lst (pa_cons pe_non (pa_cons (pv 4) (pa_cons (pe_make T.mkB G_Book___init__ (hr.mono (by omega)) (by rfl) T.g_Book T.b_Book___init__ .nil pass0 (pa_cons (pe_call G__law_with (hr.mono (by omega)) (by rfl) T.g__law_with T.f__law_with.kp T.b__law_with .nil pass0 (pa_cons (pv 4) (pa_cons pe_str (pa_cons (pe_tup (pa_cons pe_str (pa_cons pe_int pa_nil))) pa_nil)))) pa_nil)) pa_nil)))))
 (pss_cons (ps_for PassesOwn.never rfl (pi_list (pe_slice sl_list (pv 3) po_none (po_some pe_int))) (pg_name (i := 5) sc_law.nd rfl (Or.inl rfl))
 (pss_one (ps_expr (pe_bm PySem.F.plainAttrs_list PySem.F.slot_list_append PySem.F.type_list_append mt_append (pv 12) (pa_cons (pe_make T.mkB G_Book___init__ (hr.mono (by omega)) (by rfl) T.g_Book T.b_Book___init__ .nil pass0 (pa_cons (pe_call G__law_with (hr.mono (by omega)) (by rfl) T.g__law_with T.f__law_with.kp T.b__law_with .nil pass0 (pa_cons (pv 4) (pa_cons (pv 5) (pa_cons (pe_tup (pa_cons (pe_ix ix_tup (pe_dget (hu_of hr) (pv 4) (pv 5) (fun _ _ => rfl)) pe_int (fun _ _ => rfl)) (pa_cons (pe_op op_add (pe_ix ix_tup (pe_dget (hu_of hr) (pv 4) (pv 5) (fun _ _ => rfl)) pe_int (fun _ _ => rfl)) pe_int) pa_nil))) pa_nil)))) pa_nil)) pa_nil)))))
 (pss_cons (ps_set (i := 13) sc_law.nd rfl (Or.inl rfl) (pe_make T.mkB G_Book___init__ (hr.mono (by omega)) (by rfl) T.g_Book T.b_Book___init__ .nil pass0 (pa_cons (pe_callTy (call_dictP rfl) (by rfl) T.dict (by decide +kernel) (pa_cons (pe_revL (LiI.pe_listItems rfl (pv 4) (by rfl) T.list (by decide +kernel))) pa_nil)) pa_nil)))
 (pss_cons (ps_if (PW.pt (pw_or (pt_not (pt_cmpR (Own.op_eqOwn G_Book___eq__ T.m_eqB.at_ T.m_eqB.fn T.b_Book___eq__ pass0 (hr.mono (by omega))) (pv 8) (pv 13) (nomark _))) (pw_or1 (pt_cmpR (Own.op_neOwn G_Book___eq__ T.nEB T.mOB T.m_eqB.at_ T.m_eqB.fn T.b_Book___eq__ pass0 (hr.mono (by omega))) (pv 8) (pv 13) (nomark _)))))
 (pss_one (ps_ret pe_bl))
 pss_nil)
 (pss_one (ps_if (pt_val (pe_callB (cr_any rfl) (by rfl) T.any (by decide +kernel) (pa_cons (pe_lc (own := [("_law_x", 14)]) (g := gName 14) (by rfl) sc_law.nd (pi_list (pv 12)) (blkOk_by (N := N_law) (sc := defScope s_law) (by decide +kernel)) (fun _ _ _ _ _ => pg_name (i := 14) sc_law.nd rfl (Or.inl rfl)) (fun _ _ _ _ _ => pts_nil) (fun _ _ _ _ _ => (pe_or (pe_cmpR (Own.eqOwnOf (K := K) rfl G_Book___eq__ T.m_eqB.at_ T.m_eqB.fn T.b_Book___eq__ pass0 (hr.mono (by omega))) (pv 8) (pv 14) (nomark _)) (pe_or (pe_cmpR ((Own.op_eqNonL G_Book___eq__ T.sBN T.m_eqB.at_ T.m_eqB.fn T.b_Book___eq__ pass0 (hr.mono (by omega))).or ((Own.op_eqDctL G_Book___eq__ T.sBD T.m_eqB.at_ T.m_eqB.fn T.b_Book___eq__ pass0 (hr.mono (by omega))).or (Own.eqOwnOf (K := K) rfl G_Book___eq__ T.m_eqB.at_ T.m_eqB.fn T.b_Book___eq__ pass0 (hr.mono (by omega))))) (pv 14) (pv 8) (nomark _)) (pe_one (pe_not (pe_cmpR (Own.neOwnOf (K := K) rfl G_Book___eq__ T.nEB T.mOB T.m_eqB.at_ T.m_eqB.fn T.b_Book___eq__ pass0 (hr.mono (by omega))) (pv 8) (pv 14) (nomark _)))))))) pa_nil)))
 (pss_one (ps_ret pe_bl))
 pss_nil))))))))))))))))))))))
 (pss_one (ps_ret pe_bl)))), ?_⟩
    refine ⟨_, rfl, a, ns, rfl, hS, fun st c H1 sm S1 => ?_⟩
    have hT1 : LamX.Tabs [(Pt, qR)] H1 := hT.ext fun b o e => (er_same _ _) _ _ (sm b o e)
    refine ⟨4, rfl, by decide, by decide, for_range (lo := 0) (n := (4 : Int).toNat) (fun i σ' H' => ∃ v2 v3 v4 v5 v6 v7 v8 v9 v10 v11 v12 v13 v14, σ' = [some (.ref a), some (.ref st), v2, v3, v4, v5, v6, v7, v8, v9, v10, v11, v12, v13, v14] ∧ Bd st c Pt (1000 * (i : Int)) H')
      ⟨_, _, _, _, _, _, _, _, _, _, _, _, _, rfl, ⟨by simpa using S1, hT1⟩⟩ ?_ (fun σ' H' _ => k H')⟩
    clear hS sm S1 hT hT1
    rintro i σ' H0 hi ⟨v2, v3, v4, v5, v6, v7, v8, v9, v10, v11, v12, v13, v14, rfl, B0⟩
    have hi4 : (i : Int) < 4 := by
      have : i < 4 := hi
      omega
    have S0 := B0.sta
    -- names
    refine ⟨_, rfl, _, rfl, st, c, 6, _, rfl, S0, by omega, by omega, by omega, fun r o hr0 hr1 S1 => ⟨st, c, _, r.toNat, ?_, S1, by omega, by omega, fun pn ns H2 hnd hpool hnl g2 hn _ => ?_⟩⟩
    · rw [show ((r.toNat : Nat) : Int) = r by omega]; rfl
    have g2 := (Gs.of_upd S1).trans g2
    have nl6 : ns.length ≤ 5 := by omega
    have nok : ∀ s ∈ ns, PyData.strOk s = true := fun s h => pool_ok s (hpool s h)
    -- what they hang on, rows
    refine ⟨_, rfl, _, rfl, _, rfl, st, c, pn, ns, _, rfl, g2.sta, by omega, SqL.of hn, by omega, hnd, nok, fun ph rows H3 hperm tree g3 hr3 _ => ?_⟩
    have hn3 := g3.same _ _ hn
    have g3 := g2.trans g3
    have kN : (ksR rows).Nodup := hperm.nodup_iff.mpr hnd
    obtain ⟨hk, er1⟩ := rows_fn kN
    generalize hms : ksR rows = ms at hperm kN er1
    subst er1
    clear hms
    have ml6 : ms.length ≤ 5 := by rw [hperm.length_eq]; exact nl6
    have hO : ROk (fun s => (ksR (rowsF ms hk)).idxOf s) (rowsF ms hk) := ROk.tree (by rw [ksR_F]; exact kN) (fun s m => by
      rw [ksR_F] at m
      have m2 := hperm.mem_iff.mp m
      exact ⟨pool_nm s (hpool s m2), nok s m2⟩) (by rw [← ksR_len, ksR_F]; omega) tree
    have mc : ("clock" : Str) ∉ ms := fun m => absurd (hpool _ (hperm.mem_iff.mp m)) (by decide +kernel)
    refine ⟨st, c, ph, ms, hk, _, rfl, g3.sta, by omega, hr3, kN, by omega, fun pr wt kr H4 g4 hr4 hP4 hw0 nr4 => ?_⟩
    have hn4 := g4.same _ _ hn3
    have er3 := g3.same.free nr4
    have g4 := g3.trans g4
    -- some waits changed
    refine ⟨_, rfl, _, rfl, st, c, pn, ns, _, rfl, g4.sta, by omega, SqL.of hn4, by omega, fun psl sl H5 hsl g5 hs5 _ => ?_⟩
    have hn5 := g5.same _ _ hn4
    have hr5 := g5.same _ _ hr4
    have hP5 := hP4.up g5.same
    have g5 := g4.trans g5
    have sl6 : sl.length ≤ 5 := Nat.le_trans hsl.length_le nl6
    clear hn hn3 hn4 hr3 hr4 hP4 g4 S1
    have g5 := g5.le (show _ ≤ 1000 * (i : Int) + 400 by omega) (by omega)
    refine ⟨psl, rfl, ⟨_, SqL.of ((er_same _ _) _ _ hs5)⟩, for_it (walk_list (K := K) (a := psl) (xs := sl.map V.str)) (fun j σ' H' => ∃ v5 wt kr, σ' = [some (.ref a), some (.ref st), some (.int (0 + (i : Int))), some (.ref pn), some (.ref pr), v5, v6, v7, v8, v9, v10, v11, v12, v13, v14] ∧ Gs st c H0 H' (1000 * (i : Int) + 400 + 2 * (j : Int)) ∧
        er H' st pn = some (.lst (ns.map V.str)) ∧ er H' st psl = some (.lst (sl.map V.str)) ∧ er H' st pr = some (.dK kr) ∧ Pr2 K (er H' st) ms (fun n => .str (hk n)) (fun n => .int (wt n)) kr ∧ ∀ n, 0 ≤ wt n)
      ⟨_, wt, kr, rfl, by simpa using g5, hn5, hs5, hr5, hP5, hw0⟩ (fun j σ' H' _ z => ?_) ?_ (fun σ' H6 z => ?_)⟩
    · obtain ⟨_, _, _, _, _, _, z, _⟩ := z
      exact SqL.of ((er_same _ _) _ _ z)
    · clear hw0 hP5 hr5 hn5 hs5 g5 wt kr
      rintro j x σ' H' H'' hj ⟨v5, wt, kr, rfl, g, hn, hs, hr', hP, hw⟩ ⟨rfl, hx⟩
      obtain ⟨hj, rfl⟩ := str_at hx
      have m : sl[j] ∈ ms := hperm.mem_iff.mpr (hsl.mem (List.getElem_mem hj))
      generalize sl[j] = n at m ⊢
      obtain ⟨q, hv, hq⟩ := hP.val kN m
      refine ⟨_, rfl, _, rfl, pr, .ref q, rfl, .inl ⟨kr, .inr n, .inl ((er_same _ _) _ _ hr'), rfl, hv.symm⟩, _, _, _, _, rfl, rfl, stUp hq (er_same _ _), rfl, ?_⟩
      refine ⟨_, rfl, _, rfl, st, c, 50, _, rfl, g.sta, by omega, by omega, by omega, fun r2 o2 hr20 hr21 S2 => ?_⟩
      have g2 := g.trans (Gs.of_upd S2)
      rw [← er_upd H'' st o2] at hn hs hr' hP
      generalize upd H'' st o2 = H2 at g2 hn hs hr' hP ⊢
      refine ⟨by show 3 ≤ sizeLine; decide, fun L nL => ?_⟩
      have mL := g2.sta.ne nL
      have g3 := g2.new nL (o := .lst [V.int 0, .int 99999999, .int r2])
      have s3 : Same (er H2 st) (er (upd H2 L (.lst [V.int 0, .int 99999999, .int r2])) st) := er_mono (Same.new nL)
      have hL : er (upd H2 L (.lst [V.int 0, .int 99999999, .int r2])) st L = some (.lst [V.int 0, .int 99999999, .int r2]) := er_of mL upd_same
      have hn := s3 _ _ hn
      have hs := s3 _ _ hs
      have hr' := s3 _ _ hr'
      have hP := hP.up s3
      generalize upd H2 L (.lst [V.int 0, .int 99999999, .int r2]) = H3 at g3 hL hn hs hr' hP ⊢
      refine ⟨st, c, L, [V.int 0, .int 99999999, .int r2], _, rfl, g3.sta, by omega, SqL.of hL, by show 0 < 3; omega, by show 3 < 1073741824; omega, fun jj v H4 hv2 g4 => ?_⟩
      obtain ⟨m2, rfl, hm2⟩ := three_int hr20 hv2
      have hn := g4.same _ _ hn
      have hs := g4.same _ _ hs
      have hr' := g4.same _ _ hr'
      have hP := hP.up g4.same
      have g4 := g3.trans g4
      refine ⟨by show 2 ≤ sizeLine; decide, fun t nt => ?_⟩
      have mt := g4.sta.ne nt
      have g5 := g4.new nt (o := .tup [.str (hk n), .int m2])
      have s5 : Same (er H4 st) (er (upd H4 t (.tup [.str (hk n), .int m2])) st) := er_mono (Same.new nt)
      have ht : er (upd H4 t (.tup [.str (hk n), .int m2])) st t = some (.tup [.str (hk n), .int m2]) := er_of mt upd_same
      have hn := s5 _ _ hn
      have hs := s5 _ _ hs
      have hr' := s5 _ _ hr'
      have hP := hP.up s5
      generalize upd H4 t (.tup [.str (hk n), .int m2]) = H5 at g5 ht hn hs hr' hP ⊢
      refine ⟨_, rfl, _, rfl, pr, _, rfl, .inl ⟨kr, .inr n, (er_same _ _) _ _ hr', rfl, ?_, rfl⟩, ?_⟩
      · rw [hP.len]; exact Nat.lt_of_lt_of_le (show ms.length < 6 by omega) (by decide)
      have mr : pr ≠ st := (er_some hr').1
      have nr : pn ≠ pr := fun e => by rw [e, hr'] at hn; cases hn
      have ns' : psl ≠ pr := fun e => by rw [e, hr'] at hs; cases hs
      refine ⟨_, fun x => if x = n then m2 else wt x, putK kr (.inr n) (.ref t), rfl, (g5.set S0.hc er3 mr).le (by omega) (by omega), er_keep mr hn nr, er_keep mr hs ns', ?_, ?_, fun x => ?_⟩
      · rw [er_updp mr, upd_same]
      · have hQ := (hP.put (v := .int m2) m (SqT.of ht)).set (o := .dK (putK kr (.inr n) (.ref t))) hr' (noTup_dK _)
        rw [er_updp mr]
        exact hQ.congr fun x _ => ⟨rfl, by show (if x = n then V.int m2 else .int (wt x)) = V.int (if x = n then m2 else wt x); split <;> rfl⟩
      · show 0 ≤ if x = n then m2 else wt x
        split
        · exact hm2
        · exact hw x
    obtain ⟨v5', wt, kr, rfl, g6, hn6, _, hr6, hP6, hw0⟩ := z
    have g6 := g6.le (show _ ≤ 1000 * (i : Int) + 500 by rw [List.length_map]; omega) (by omega)
    -- given
    have S6 := g6.sta
    have nts := (er_some hr6).1
    have hu : ∀ xs, (HO.dK kr) ≠ .lst xs := fun _ z => nomatch z
    refine ⟨pr, _, (er_some hr6).2, trivial, fun od => ?_⟩
    have S7 : Sta (upd H6 pr (.frz od (.dK kr))) st c (1000 * (i : Int) + 500) := S6.at_ hr6 hu
    have htf : er (upd H6 pr (.frz od (.dK kr))) st pr = some (.frz od (.dK kr)) := er_of nts upd_same
    have hPf : Pr2 K (er (upd H6 pr (.frz od (.dK kr))) st) ms (fun n => .str (hk n)) (fun n => .int (wt n)) kr := by rw [er_updp nts]; exact hP6.set hr6 (noTup_dK _)
    have G0 : ∀ {H' : Hp} {b' : Int}, Gs st c (upd H6 pr (.frz od (.dK kr))) H' b' → Gs st c H6 (upd H' pr (.dK kr)) b' := fun g => g.unlock S6 hr6 hu
    have eqn : ∀ a, er (upd H6 pr (.frz od (.dK kr))) st a = none → er H6 st a = none := fun a e => by
      rw [er_updp nts] at e
      by_cases h : a = pr
      · subst h; rw [upd_same] at e; cases e
      · rw [upd_ne h] at e; exact e
    refine ⟨_, rfl, pr, od, rfl, .inl ⟨_, upd_same, fun D hD => ?_⟩⟩
    generalize upd H6 pr (.frz od (.dK kr)) = Hf at S7 htf hPf G0 eqn hD ⊢
    have mD := S7.ne hD
    have eD := er_none (st := st) hD
    refine lc_it walk_keys (fun j H' => ∃ (ps : List Addr) (kvs : List (Key × V)), er H' st D = some (.lst (ps.map V.ref)) ∧ Paired (fun p kv => SqT K (er H' st) p [kV kv.1, kv.2]) ps kvs ∧ PrG (fun n a => a ≠ D ∧ er Hf st a = none ∧ LTu (er H' st) a (.str (hk n)) (.int (wt n))) (ms.take j) kvs ∧ Gs st c Hf H' (1000 * (i : Int) + 500 + (j : Int)))
      ⟨[], [], er_of mD upd_same, .nil, PrG.nil, by simpa using (Gs.refl S7).new hD⟩ (fun i H' _ z => ?_) ?_ (fun H1 z => ?_)
    · obtain ⟨_, _, _, _, _, g⟩ := z
      exact (er_same _ _) _ _ (g.same _ _ htf)
    · rintro j x H' H'' hj ⟨ps, kvs, hD1, hP, hR, g⟩ ⟨rfl, key, v, hkv, rfl⟩
      obtain ⟨hi1, a1, rfl, rfl, _⟩ := hPf.get hkv
      have hm := List.getElem_mem hi1
      obtain ⟨a2, hv, hq2⟩ := hPf.val kN hm
      refine ⟨rfl, _, rfl, _, rfl, _, rfl, _, rfl, pr, .ref a2, rfl, .inl ⟨kr, .inr ms[j], .inr ⟨od, (er_same _ _) _ _ (g.same _ _ htf)⟩, rfl, hv.symm⟩, st, c, a2, hk ms[j], wt ms[j], _, rfl, g.sta, by omega, stUp hq2 g.same, fun r2 H2 g2 nr2 hL => ?_⟩
      have hL : LTu (er H2 st) r2 (.str (hk ms[j])) (.int (wt ms[j])) := hL
      have nrD : r2 ≠ D := fun e => by rw [e, hD1] at nr2; cases nr2
      have fr2 : er Hf st r2 = none := g.same.free nr2
      have hD2 := g2.same _ _ hD1
      have hP2 := paired_imp (fun p (kv : Key × V) (z : SqT K _ p [kV kv.1, kv.2]) => stUp z g2.same) hP
      have hR2 := hR.imp fun n a (q : a ≠ D ∧ er Hf st a = none ∧ LTu (er H'' st) a (.str (hk n)) (.int (wt n))) => (⟨q.1, q.2.1, q.2.2.up g2.same⟩ : a ≠ D ∧ er Hf st a = none ∧ LTu (er H2 st) a (.str (hk n)) (.int (wt n)))
      have hpl : ps.length = j := by
        rw [hP.length, hR.len, List.length_take]; omega
      have g2 := g.trans g2
      refine ⟨by show 2 ≤ sizeLine; decide, fun t2 nt2 => ?_⟩
      have m2 := g2.sta.ne nt2
      have g4 := g2.new nt2 (o := .tup [kV (.inr ms[j]), .ref r2])
      have s4 : Same (er H2 st) (er (upd H2 t2 (.tup [kV (.inr ms[j]), .ref r2])) st) := er_mono (Same.new nt2)
      have h2 : er (upd H2 t2 (.tup [kV (.inr ms[j]), .ref r2])) st t2 = some (.tup [kV (.inr ms[j]), .ref r2]) := er_of m2 upd_same
      have hL4 := hL.up s4
      have hD4 := s4 _ _ hD2
      have hP4 := paired_imp (fun p (kv : Key × V) (z : SqT K _ p [kV kv.1, kv.2]) => stUp z s4) hP2
      have hR4 := hR2.imp fun n a (q : a ≠ D ∧ er Hf st a = none ∧ LTu (er H2 st) a (.str (hk n)) (.int (wt n))) => (⟨q.1, q.2.1, q.2.2.up s4⟩ : a ≠ D ∧ er Hf st a = none ∧ LTu (er (upd H2 t2 (.tup [kV (.inr ms[j]), .ref r2])) st) a (.str (hk n)) (.int (wt n)))
      generalize upd H2 t2 (.tup [kV (.inr ms[j]), .ref r2]) = H4 at g4 h2 hL4 hD4 hP4 hR4 ⊢
      refine ⟨_, (er_same _ _) _ _ hD4, ?_, ?_⟩
      · rw [List.length_map, hpl]
        exact Nat.lt_of_lt_of_le (show j < 65 by omega) (by decide)
      have nL := noTup_lst (ps.map V.ref)
      have e1 : ms.take (j + 1) = ms.take j ++ [ms[j]] := by rw [List.take_succ, List.getElem?_eq_getElem hi1]; rfl
      have setT : ∀ {a : Addr} {xs : List V}, SqT K (er H4 st) a xs → SqT K (er (upd H4 D (.lst (ps.map V.ref ++ [.ref t2]))) st) a xs := fun z => by
        rw [er_updp mD]; exact tupSet hD4 nL z
      refine ⟨ps ++ [t2], kvs ++ [(.inr ms[j], .ref r2)], ?_, ?_, ?_, ?_⟩
      · rw [er_updp mD, upd_same, List.map_append]; rfl
      · exact paired_snoc (paired_imp (fun p (kv : Key × V) z => setT z) hP4) (setT (SqT.of h2))
      · rw [e1, er_updp mD]
        exact PrG.snoc (hR4.imp fun n a q => ⟨q.1, q.2.1, q.2.2.set q.1⟩) ⟨nrD, fr2, hL4.set nrD⟩
      · exact (g4.set S7.hc eD mD).le (by omega) (by omega)
    obtain ⟨ps, kvs, hD1, hP, hR, g⟩ := z
    rw [hP6.len, List.take_length] at hR
    rw [hP6.len] at g
    have htE := (er_same _ _) _ _ (g.same _ _ htf)
    refine ⟨htE, ?_⟩
    have g1 := G0 g
    have s1 : Same (er (er H1 st) pr) (er (upd H1 pr (.dK kr)) st) := fun x u e => by
      obtain ⟨n1, e1⟩ := er_some e
      rw [er_updp nts, upd_ne n1]; exact e1
    have nF : NoTup (.frz od (.dK kr)) := ⟨fun _ z => (nomatch z), fun _ _ z => (nomatch z)⟩
    have ht1 := g.same _ _ htf
    have hP1 := paired_imp (fun p (kv : Key × V) (z : SqT K _ p [kV kv.1, kv.2]) => stUp (tupEr ht1 nF z) s1) hP
    have hR1 := hR.imp fun n a (q : a ≠ D ∧ er Hf st a = none ∧ LTu (er H1 st) a (.str (hk n)) (.int (wt n))) => (⟨eqn _ q.2.1, by
      have na : a ≠ pr := q.2.2.ne ht1 (fun _ z => nomatch z) (fun _ z => nomatch z)
      exact q.2.2.imp (fun e => s1 _ _ (er_of na e)) (fun e => s1 _ _ (er_of na e))⟩ : er H6 st a = none ∧ LTu (er (upd H1 pr (.dK kr)) st) a (.str (hk n)) (.int (wt n)))
    have nDt : D ≠ pr := fun e => by rw [e, ht1] at hD1; cases hD1
    have hD2 := s1 _ _ (er_of nDt hD1)
    generalize upd H1 pr (.dK kr) = H7 at g1 s1 hP1 hR1 hD2 ⊢
    clear G0 eqn hPf htf S7 hP hR hD1 ht1 nF htE g hD mD eD s1
    refine ⟨D, ps, kvs, rfl, SqL.of ((er_same _ _) _ _ hD2), paired_imp (fun p (kv : Key × V) (z : SqT K _ p [kV kv.1, kv.2]) => stUp z (er_same _ _)) hP1, fun pg npg => ?_⟩
    rw [merge_all kvs [] (by rw [List.nil_append, hR1.keys]; exact inr_nd kN), List.nil_append]
    have mg := g1.sta.ne npg
    have epg := g1.same.free (er_none npg)
    have s8 : Same (er H7 st) (er (upd H7 pg (.dK kvs)) st) := er_mono (Same.new npg)
    have g8 := g1.new npg (o := .dK kvs)
    have hg8 : er (upd H7 pg (.dK kvs)) st pg = some (.dK kvs) := er_of mg upd_same
    have hR8 := hR1.imp fun n a (q : er H6 st a = none ∧ LTu (er H7 st) a (.str (hk n)) (.int (wt n))) => (⟨q.1, q.2.up s8⟩ : er H6 st a = none ∧ LTu (er (upd H7 pg (.dK kvs)) st) a (.str (hk n)) (.int (wt n)))
    generalize upd H7 pg (.dK kvs) = H8 at g8 hg8 hR8 ⊢
    clear s8 hP1 hR1 hD2 nDt g1 npg
    -- up
    refine ⟨_, rfl, pn, ns, rfl, SqL.of ((er_same _ _) _ _ (g8.same _ _ hn6)), by omega, fun pu up H9 hup husort npu s9 hu9 => ?_⟩
    refine ⟨_, _, rfl, ?_⟩
    have g9 := g8.trans (Gs.of_same g8.sta s9)
    have hg9 := er_mono s9 _ _ hg8
    have mu := g8.sta.ne npu
    have hR9 := hR8.imp fun n a (q : er H6 st a = none ∧ LTu (er H8 st) a (.str (hk n)) (.int (wt n))) => (⟨q.1, by
      obtain ⟨u, e⟩ := q.2.some
      exact ne_of_none (er_some e).2 npu, q.2.up (er_mono s9)⟩ : er H6 st a = none ∧ a ≠ pu ∧ LTu (er H9 st) a (.str (hk n)) (.int (wt n)))
    clear hg8 hR8 g8 s9
    -- the book
    have hg9' := (er_same _ _) _ _ hg9
    have hX9 : PrX K (er H9 st) ms (fun n => .str (hk n)) (fun n => .int (wt n)) kvs := (hR9.imp fun n a q => q.2.2).x
    refine ⟨_, rfl, fun p dx np ndx ndp => ?_⟩
    have sM : Same H9 (upd (upd H9 dx (.own p)) p (.ins A.a_Book dx [])) := fun b u e => by rw [upd_ne (ne_of_none e np), upd_ne (ne_of_none e ndx)]; exact e
    refine ⟨p, dx, pg, kvs, ms, hk, wt, _, rfl, upd_same, sM _ _ hg9', (hX9.up (er_same _ _)).up sM, hO, fun n _ => hw0 n, fun H10 ys BN hys hsy sS => ⟨rfl, ?_⟩⟩
    obtain rfl : ys = up := asc_eq (hys.trans (hperm.trans hup.symm)) hsy husort
    have s10 : Same H9 H10 := fun b u e => (er_same _ _) _ _ (sS _ _ (er_of (ne_of_none e np) (sM _ _ e)))
    have BN : ∀ H2, (∀ b u, H10 b = some u → H9 b = none → H2 b = some u) → BkAt A.a_Book H2 p ys hk wt := fun H2 hh => BN H2 fun b u e q => hh b u e (q.elim sM.free (fun z => by rw [z]; exact np))
    have yN : ys.Nodup := hys.nodup_iff.mpr kN
    have yl : ys.length ≤ 5 := by rw [hys.length_eq]; exact ml6
    clear sM sS np ndx ndp
    have g10 := g9.trans (Gs.of_same g9.sta s10)
    have hg10 := s10 _ _ hg9'
    have hu10 := s10 _ _ hu9
    -- bend
    obtain ⟨as, eas, las, has⟩ := hR9.vals
    have h9 : ∀ a ∈ as, ∃ u, H9 a = some u := fun a m => by
      obtain ⟨n, _, _, _, q⟩ := has a m
      obtain ⟨u, e⟩ := q.some
      exact ⟨u, (er_some e).2⟩
    refine ⟨_, rfl, pg, kvs, rfl, hg10, fun l nl => ⟨l, as, rfl, by rw [← eas]; exact upd_same, by omega, fun m => ?_, fun a m => ?_, fun H11 but => ?_⟩⟩
    · obtain ⟨u, e⟩ := h9 _ m
      rw [s10 _ _ e] at nl; cases nl
    · obtain ⟨n, _, _, _, q⟩ := has a m
      exact ((q.up (er_same _ _)).up (s10.trans (Same.new nl))).bdt
    have keep : ∀ b u, H10 b = some u → b ∉ as → H11 b = some u := fun b u e n => but b u (Same.new nl _ _ e) (fun z => (List.mem_cons.mp z).elim (ne_of_none e nl) n)
    have nas : ∀ b, er H6 st b ≠ none → b ∉ as := fun b n m => by
      obtain ⟨_, _, q, _⟩ := has b m
      exact n q
    have sas : st ∉ as := fun m => by
      obtain ⟨_, _, _, _, q⟩ := has _ m
      obtain ⟨u, e⟩ := q.some
      exact (er_some e).1 rfl
    have uas : pu ∉ as := fun m => by
      obtain ⟨_, _, _, q, _⟩ := has _ m
      exact q rfl
    have gas : pg ∉ as := fun m => by
      obtain ⟨_, _, _, _, q⟩ := has _ m
      exact q.ne hg9 (fun _ z => nomatch z) (fun _ z => nomatch z) rfl
    have g11 : Gs st c H6 H11 (1000 * (i : Int) + 500 + (ms.length : Int)) := by
      obtain ⟨cs, i', l', m', n', h1, h2, h3⟩ := g10.sta.ex
      refine ⟨⟨cs, i', l', m', n', keep _ _ h1 sas, er_of (er_some h2).1 (keep _ _ (er_some h2).2 (nas _ S6.hc)), h3⟩, fun b u e => er_of (er_some e).1 (keep _ _ (er_some (g10.same _ _ e)).2 (nas _ (by rw [e]; exact fun z => nomatch z)))⟩
    have hg11 := keep _ _ hg10 gas
    have hu11 := keep _ _ hu10 uas
    have BN : ∀ H2, (∀ b u, H11 b = some u → H9 b = none → H2 b = some u) → BkAt A.a_Book H2 p ys hk wt := fun H2 hh => BN H2 fun b u e q => hh b u (keep _ _ e fun m => by
      obtain ⟨u, e2⟩ := h9 _ m
      rw [q] at e2; cases e2) q
    clear keep nas sas gas uas but h9 has eas las nl hu10 hg10 g10 s10
    -- given["late"]
    refine ⟨by show 2 ≤ sizeLine; decide, fun t nt => ⟨_, rfl, pg, _, rfl, .inl ⟨kvs, .inr "late", Same.new nt _ _ hg11, rfl, by rw [hR9.len]; exact Nat.lt_of_lt_of_le (show ms.length < 6 by omega) (by decide), rfl⟩, ?_⟩⟩
    have g13 := (g11.new nt (o := .tup [.str "clock", .int 1])).set (o := .dK (putK kvs (.inr "late") (.ref t))) S6.hc epg mg
    have B13 : BkAt A.a_Book (upd (upd H11 t (.tup [.str "clock", .int 1])) pg (.dK (putK kvs (.inr "late") (.ref t)))) p ys hk wt := BN _ fun b u e q => by
      rw [upd_ne (fun z => by rw [z, hg9'] at q; cases q), upd_ne (ne_of_none e nt)]; exact e
    have nug : pu ≠ pg := fun z => by rw [z, hg11] at hu11; cases hu11
    have hu13 : upd (upd H11 t (.tup [.str "clock", .int 1])) pg (.dK (putK kvs (.inr "late") (.ref t))) pu = some (.lst (ys.map V.str)) := by rw [upd_ne nug]; exact Same.new nt _ _ hu11
    refine cast_heap (b := upd (upd H11 t (.tup [.str "clock", .int 1])) pg (.dK (putK kvs (.inr "late") (.ref t)))) rfl ?_
    generalize upd (upd H11 t (.tup [.str "clock", .int 1])) pg (.dK (putK kvs (.inr "late") (.ref t))) = H13 at g13 B13 hu13 ⊢
    obtain ⟨cs, ci, cl, cm, cn, hst13, _⟩ := id g13.sta.ex
    have F13 : Fk K A.a_Book (nE H13 st) pn pr pu p ns ms ys hk wt kr :=
      ⟨nE_of (g13.same _ _ hn6) (fun _ z => nomatch z), nE_of (g13.same _ _ hr6) (fun _ z => nomatch z), (hP6.up g13.same).nt, nE_of (er_of mu hu13) (fun _ z => nomatch z), (B13.er hst13).nt⟩
    have B13 := (B0.gs (g6.trans g13)).le (show _ ≤ 1000 * (i : Int) + 510 by omega) (by omega)
    clear hst13 hu13 nug BN hu11 hg11 g11 g13 hg9' hg9 hX9 hR9 g9 nt hn6 hr6 hP6 g6 S6 hu epg mg mu hu9 npu nts
    have hOy := hO.perm hys
    have mok : ∀ s ∈ ms, PyData.strOk s = true := fun s m => nok s (hperm.mem_iff.mp m)
    -- tells
    refine ⟨_, rfl, _, rfl, _, rfl, p, pr, pu, ys, ms, hk, wt, kr, _, rfl, F13.b.up nE_same, nE_same _ _ F13.r, F13.rt.up nE_same, nE_same _ _ F13.u, hys, hO, by omega, hsy, mok, mc, fun H14 s14 => ⟨_, rfl, iteF ?_⟩⟩
    have F14 := F13.up (nE_mono s14)
    have B14 := B13.same s14
    clear F13 B13 s14
    -- told["late"]
    have BB := F14.b.up nE_same
    obtain ⟨dx1, qh1, qw1, hp1, _⟩ := id BB.ex
    refine ⟨_, rfl, p, dx1, _, rfl, hp1, rfl, p, ys, hk, wt, rfl, BB, yN, by omega, fun rr kt H15 s15 n15 h15 P15 => ?_⟩
    refine ⟨by show 2 ≤ sizeLine; decide, fun t nt => ⟨_, rfl, rr, _, rfl, .inl ⟨kt, .inr "late", Same.new nt _ _ h15, rfl, by rw [P15.len]; exact Nat.lt_of_lt_of_le (show ys.length < 6 by omega) (by decide), rfl⟩, ?_⟩⟩
    have g17 := ((Gs.of_same B14.sta s15).new nt (o := .tup [.str "clock", .int 1])).set (o := .dK (putK kt (.inr "late") (.ref t))) B14.sta.hc (er_none n15) (B14.sta.ne n15)
    refine cast_heap (b := upd (upd H15 t (.tup [.str "clock", .int 1])) rr (.dK (putK kt (.inr "late") (.ref t)))) rfl ?_
    generalize upd (upd H15 t (.tup [.str "clock", .int 1])) rr (.dK (putK kt (.inr "late") (.ref t))) = H17 at g17 ⊢
    have F17 := F14.up (nE_gs g17)
    have B17 := B14.gs g17
    clear BB hp1 s15 n15 h15 P15 nt g17 F14 B14
    -- tells
    refine ⟨_, rfl, _, rfl, _, rfl, p, pr, pu, ys, ms, hk, wt, kr, _, rfl, F17.b.up nE_same, nE_same _ _ F17.r, F17.rt.up nE_same, nE_same _ _ F17.u, hys, hO, by omega, hsy, mok, mc, fun H18 s18 => ⟨_, rfl, iteF ?_⟩⟩
    have F18 := F17.up (nE_mono s18)
    have B18 := B17.same s18
    clear F17 B17 s18
    -- refuses
    refine ⟨_, rfl, p, ys, hk, wt, rfl, F18.b.up nE_same, yN, fun s m => hpool s (hperm.mem_iff.mp (hys.mem_iff.mp m)), B18.tab, fun H19 eN T19 => ⟨_, rfl, iteF ?_⟩⟩
    have F19 := F18.up (nE_ext eN)
    have B19 := B18.ext eN T19
    clear F18 B18 eN T19
    -- pairs
    obtain ⟨W, hW⟩ := ways_ex2 hOy
    refine ⟨_, rfl, _, rfl, st, c, pn, ns, _, rfl, B19.sta, by omega, SqL.of (nt_some F19.n), by omega, nok, fun pm zs H20 hzs g20 hm20 _ => ?_⟩
    have F20 := F19.up (nE_gs g20)
    have B20 := B19.gs g20
    have zN : zs.Nodup := hzs.nodup_iff.mpr hnd
    have zl : zs.length ≤ 5 := by rw [hzs.length_eq]; exact nl6
    have hm20 := (er_same _ _) _ _ hm20
    clear F19 B19 g20
    refine ⟨pm, rfl, ⟨_, SqL.of hm20⟩, fun D hD => ?_⟩
    refine lc_it (walk_list (K := K) (a := pm) (xs := zs.map V.str)) (fun j H' => ∃ (ps : List Addr), H' D = some (.lst (ps.map V.ref)) ∧ Paired (fun p kv => SqT K H' p [kV kv.1, kv.2]) ps (kvF (zs.take j) fun n => .int (sW W wt n)) ∧ Same H20 H')
      ⟨[], upd_same, .nil, Same.new hD⟩ (fun j H' _ z => ?_) ?_ (fun H21 z => ?_)
    · obtain ⟨_, _, _, s5⟩ := z
      exact SqL.of (s5 _ _ hm20)
    · rintro j x H' H'' hj ⟨ps, hD5, hP5, s5⟩ ⟨rfl, hx⟩
      obtain ⟨hj1, rfl⟩ := str_at hx
      have hm : zs[j] ∈ ms := hperm.mem_iff.mpr (hzs.mem_iff.mp (List.getElem_mem hj1))
      have my : zs[j] ∈ ys := hys.mem_iff.mpr hm
      refine ⟨rfl, _, rfl, _, rfl, _, rfl, pr, kr, ms, hk, wt, zs[j], W zs[j], rfl, s5 _ _ (nE_same _ _ F20.r), (F20.rt.up nE_same).up s5, kN, hm, fun e => mc (by rw [← e]; exact hm), (hW _ my).1.mono fun k x z => ?_, fun w z => hys.mem_iff.mp ((hW _ my).2 w z), by show 2 ≤ sizeLine; decide, fun t2 nt2 => ?_⟩
      · obtain ⟨m1, e⟩ := of_mem_F z
        rw [e]; exact mem_F (hys.mem_iff.mp m1)
      have s6 : Same H'' (upd H'' t2 (.tup [kV (.inr zs[j]), .int (sW W wt zs[j])])) := Same.new nt2
      have h2 : upd H'' t2 (.tup [kV (.inr zs[j]), .int (sW W wt zs[j])]) t2 = some (.tup [kV (.inr zs[j]), .int (sW W wt zs[j])]) := upd_same
      have hD6 := s6 _ _ hD5
      have hP6 := paired_imp (fun p (kv : Key × V) (z : SqT K _ p [kV kv.1, kv.2]) => stUp z s6) hP5
      have s6 := s5.trans s6
      refine cast_heap (b := upd H'' t2 (.tup [kV (.inr zs[j]), .int (sW W wt zs[j])])) rfl ?_
      generalize upd H'' t2 (.tup [kV (.inr zs[j]), .int (sW W wt zs[j])]) = H6 at s6 h2 hD6 hP6 ⊢
      have hpl : ps.length = j := by
        rw [hP5.length, kvF_len, List.length_take]; omega
      refine ⟨_, hD6, ?_, ?_⟩
      · rw [List.length_map, hpl]
        exact Nat.lt_of_lt_of_le (show j < 65 by omega) (by decide)
      have nL := noTup_lst (ps.map V.ref)
      have e1 : zs.take (j + 1) = zs.take j ++ [zs[j]] := by rw [List.take_succ, List.getElem?_eq_getElem hj1]; rfl
      have setT : ∀ {a : Addr} {xs : List V}, SqT K H6 a xs → SqT K (upd H6 D (.lst (ps.map V.ref ++ [.ref t2]))) a xs := fun z => tupSet hD6 nL z
      refine ⟨ps ++ [t2], by rw [upd_same, List.map_append]; rfl, ?_, fun b u e => by rw [upd_ne (ne_of_none e hD)]; exact s6 _ _ e⟩
      rw [e1, kvF_snoc]
      exact paired_snoc (paired_imp (fun p (kv : Key × V) z => setT z) hP6) (setT (SqT.of h2))
    obtain ⟨ps, hD21, hP21, s21⟩ := z
    rw [List.length_map, List.take_length] at hP21
    have F21 := F20.up (nE_mono s21)
    have B21 := B20.same s21
    clear F20 B20 s21 hm20 hD
    -- sums
    have nlate : ("late" : Str) ∉ zs := fun m => absurd (hpool _ (hzs.mem_iff.mp m)) (show ("late" : Str) ∉ pool by decide +kernel)
    have nclk : ("clock" : Str) ∉ zs := fun m => absurd (hpool _ (hzs.mem_iff.mp m)) (show ("clock" : Str) ∉ pool by decide +kernel)
    have zN2 : (zs ++ [("late" : Str), "clock"]).Nodup := List.nodup_append.mpr ⟨zN, by decide +kernel, fun x hx y hy e => by
      subst e
      simp only [List.mem_cons, List.not_mem_nil, or_false] at hy
      rcases hy with e | e
      · exact nlate (by rw [← e]; exact hx)
      · exact nclk (by rw [← e]; exact hx)⟩
    refine ⟨_, rfl, by show 2 ≤ sizeLine; decide, fun t1 n1 => ⟨by show 2 ≤ sizeLine; decide, fun t2 n2 => ⟨by show 2 ≤ sizeLine; decide, fun l nl => ?_⟩⟩⟩
    have s22 : Same H21 (upd (upd (upd H21 t1 (.tup [.str "late", .int 3])) t2 (.tup [.str "clock", .int 7])) l (.lst [.ref t1, .ref t2])) := ((Same.new n1).trans (Same.new n2)).trans (Same.new nl)
    have h1 : upd (upd (upd H21 t1 (.tup [.str "late", .int 3])) t2 (.tup [.str "clock", .int 7])) l (.lst [.ref t1, .ref t2]) t1 = some (.tup [.str "late", .int 3]) := Same.new nl _ _ (Same.new n2 _ _ upd_same)
    have h2 : upd (upd (upd H21 t1 (.tup [.str "late", .int 3])) t2 (.tup [.str "clock", .int 7])) l (.lst [.ref t1, .ref t2]) t2 = some (.tup [.str "clock", .int 7]) := Same.new nl _ _ upd_same
    have h3 : upd (upd (upd H21 t1 (.tup [.str "late", .int 3])) t2 (.tup [.str "clock", .int 7])) l (.lst [.ref t1, .ref t2]) l = some (.lst [.ref t1, .ref t2]) := upd_same
    generalize upd (upd (upd H21 t1 (.tup [.str "late", .int 3])) t2 (.tup [.str "clock", .int 7])) l (.lst [.ref t1, .ref t2]) = H22 at s22 h1 h2 h3 ⊢
    have hpl : ps.length ≤ 5 := by rw [hP21.length, kvF_len]; exact zl
    refine ⟨_, _, _, _, rfl, rfl, s22 _ _ hD21, h3, by rw [List.length_map]; exact Nat.le_trans (show ps.length + 2 ≤ 64 by omega) (by decide), fun L nL => ?_⟩
    have s23 := Same.new nL (o := .lst (ps.map V.ref ++ [.ref t1, .ref t2]))
    refine ⟨L, ps ++ [t1, t2], kvF (zs ++ [("late" : Str), "clock"]) (fun n => .int (sums2 (sW W wt) n)), rfl, SqL.of (by rw [upd_same, List.map_append]; rfl), ?_, fun pd npd => ?_⟩
    · rw [sums2_kvs nlate nclk]
      have hP := paired_imp (fun p (kv : Key × V) (z : SqT K _ p [kV kv.1, kv.2]) => stUp z (s22.trans s23)) hP21
      have := paired_snoc (paired_snoc hP (y := ((.inr "late" : Key), V.int 3)) (SqT.of (s23 _ _ h1))) (y := ((.inr "clock" : Key), V.int 7)) (SqT.of (s23 _ _ h2))
      rw [List.append_assoc, List.append_assoc] at this
      exact this
    rw [merge_all (kvF (zs ++ [("late" : Str), "clock"]) fun n => .int (sums2 (sW W wt) n)) [] (by rw [List.nil_append, kvF_keys]; exact inr_nd zN2), List.nil_append]
    have s24 := (s22.trans s23).trans (Same.new npd (o := .dK (kvF (zs ++ [("late" : Str), "clock"]) fun n => .int (sums2 (sW W wt) n))))
    have hpd : upd (upd H22 L (.lst (ps.map V.ref ++ [.ref t1, .ref t2]))) pd (.dK (kvF (zs ++ [("late" : Str), "clock"]) fun n => .int (sums2 (sW W wt) n))) pd = some (.dK (kvF (zs ++ [("late" : Str), "clock"]) fun n => .int (sums2 (sW W wt) n))) := upd_same
    refine cast_heap (b := upd (upd H22 L (.lst (ps.map V.ref ++ [.ref t1, .ref t2]))) pd (.dK (kvF (zs ++ [("late" : Str), "clock"]) fun n => .int (sums2 (sW W wt) n)))) rfl ?_
    generalize upd (upd H22 L (.lst (ps.map V.ref ++ [.ref t1, .ref t2]))) pd (.dK (kvF (zs ++ [("late" : Str), "clock"]) fun n => .int (sums2 (sW W wt) n))) = H24 at s24 hpd ⊢
    have F24 := F21.up (nE_mono s24)
    have B24 := B21.same s24
    clear F21 B21 s24 s23 s22 h1 h2 h3 hD21 hP21 n1 n2 nl nL npd
    have vS : ∀ n ∈ ys, valV (kvF (zs ++ [("late" : Str), "clock"]) fun n => V.int (sums2 (sW W wt) n)) (.inr n) = some (.int (sW W wt n)) := fun n m => by
      have mz : n ∈ zs := hzs.mem_iff.mpr (hperm.mem_iff.mp (hys.mem_iff.mp m))
      rw [kvF_val (f := fun n => V.int (sums2 (sW W wt) n)) zN2 (List.mem_append_left _ mz)]
      unfold sums2
      rw [if_neg fun e => nlate (by rw [← e]; exact mz), if_neg fun e => nclk (by rw [← e]; exact mz)]
    -- Book.of
    have BB := F24.b.up nE_same
    obtain ⟨dx1, qh1, qw1, hp1, _⟩ := id BB.ex
    refine ⟨rfl, _, rfl, p, dx1, _, rfl, hp1, rfl, p, ys, hk, wt, _, rfl, BB, hOy, hsy, fun q H25 d s25 hg => ?_⟩
    refine ⟨_, rfl, q, d, pd, ys, hk, sW W wt, _, _, rfl, hg, s25 _ _ hpd, vS, hOy, hsy, fun n m => by rw [wOf_sW hOy hW m]; exact hw0 n, fun p2 H26 s26 n26 B2 => ?_⟩
    have B2 := B2.wt fun n m => wOf_sW (wt := wt) hOy hW m
    have S26 := s25.trans s26
    have BB := BB.up S26
    obtain ⟨dx2, qh2, qw2, hp2, _⟩ := id B2.ex
    refine ⟨_, rfl, p2, dx2, _, rfl, hp2, .ins (S26 _ _ hp1) T.nfB, p2, ys, hk, wt, _, rfl, B2, .inl ⟨p, ys, hk, wt, rfl, BB, ?_⟩⟩
    rw [eqBk_refl yN]
    refine ⟨_, rfl, _, rfl, iteF ?_⟩
    have F26 := F24.up (nE_mono S26)
    have B26 := B24.same S26
    have hpd26 := S26 _ _ hpd
    clear BB hp1 hg B2 hp2 S26 s26 s25 n26 F24 B24 hpd
    -- Book.of again
    have BB := F26.b.up nE_same
    obtain ⟨dx1, qh1, qw1, hp1, _⟩ := id BB.ex
    refine ⟨rfl, _, rfl, p, dx1, _, rfl, hp1, rfl, p, ys, hk, wt, _, rfl, BB, hOy, hsy, fun q H27 d s27 hg => ?_⟩
    refine ⟨_, rfl, q, d, pd, ys, hk, sW W wt, _, _, rfl, hg, s27 _ _ hpd26, vS, hOy, hsy, fun n m => by rw [wOf_sW hOy hW m]; exact hw0 n, fun p3 H28 s28 n28 B3 => ?_⟩
    obtain ⟨dx3, qh3, qw3, hp3, _⟩ := id B3.ex
    have S28 := s27.trans s28
    refine ⟨_, _, .ref A.a_Book, _, true, rfl, .own _, .base (.ins hp3 T.cl_B T.aCB T.aG T.aT T.mOB), T.kBB, _, rfl, iteF ?_⟩
    have F28 := F26.up (nE_mono S28)
    have B28 := B26.same S28
    clear BB hp1 hg B3 hp3 S28 s28 s27 n28 F26 B26 hpd26
    -- the others
    have nqq : ("qq" : Str) ∉ ms := fun m => absurd (hpool _ (hperm.mem_iff.mp m)) (show ("qq" : Str) ∉ pool by decide +kernel)
    have hr28 := nE_same _ _ F28.r
    refine ⟨_, rfl, _, rfl, by show 2 ≤ sizeLine; decide, fun t nt => ⟨pr, .inr "qq", .ref t, kr, rfl, .inl (Same.new nt _ _ hr28), by rw [F28.rt.len]; omega, fun pw H29 npw s29 hw29 => ?_⟩⟩
    have P29 := (((F28.rt.up nE_same).up (Same.new nt (o := .tup [.str "clock", .int 0]))).snocQ nqq (SqT.of upd_same)).up s29
    have P29 : Pr2 K H29 (ms ++ [("qq" : Str)]) (fun n => .str (if n = "qq" then ("clock" : Str) else hk n)) (fun n => .int (if n = "qq" then 0 else wt n)) (putK kr (.inr "qq") (.ref t)) := P29.congr fun m _ => ⟨by
      show (if m = "qq" then V.str "clock" else .str (hk m)) = V.str (if m = "qq" then ("clock" : Str) else hk m)
      split <;> rfl, by
      show (if m = "qq" then V.int 0 else .int (wt m)) = V.int (if m = "qq" then 0 else wt m)
      split <;> rfl⟩
    have s29 := (Same.new nt).trans s29
    have hO4 : ROk (fun s => (ksR (qqR (rowsF ms hk))).idxOf s) (rowsF (ms ++ [("qq" : Str)]) fun n => if n = "qq" then ("clock" : Str) else hk n) := by
      have e : rowsF (ms ++ [("qq" : Str)]) (fun n => if n = "qq" then ("clock" : Str) else hk n) = qqR (rowsF ms hk) := by
        unfold qqR rowsF
        rw [List.map_append]
        refine congr (congrArg _ (List.map_congr_left fun n m => ?_)) ?_
        · show (n, if n = "qq" then ("clock" : Str) else hk n) = (n, hk n)
          rw [if_neg fun e => nqq (by rw [← e]; exact m)]
        · show [(("qq" : Str), if ("qq" : Str) = "qq" then ("clock" : Str) else hk "qq")] = _
          rw [if_pos rfl]
      rw [e]
      exact qq_ok (by rw [ksR_F]; exact nqq) hO tree (by rw [← ksR_len, ksR_F]; omega)
    refine fun p4 dx4 np ndx ndp => ?_
    have sM : Same H29 (upd (upd H29 dx4 (.own p4)) p4 (.ins A.a_Book dx4 [])) := fun b u e => by rw [upd_ne (ne_of_none e np), upd_ne (ne_of_none e ndx)]; exact e
    refine ⟨p4, dx4, pw, _, _, _, _, _, rfl, upd_same, sM _ _ hw29, (P29.up sM).x, hO4, fun n _ => ?_, fun H30 ys4 BN hys4 hsy4 sS => ⟨rfl, ?_⟩⟩
    · show 0 ≤ if n = "qq" then 0 else wt n
      split
      · exact Int.le_refl _
      · exact hw0 n
    have B4 := BN H30 fun _ _ e _ => e
    have s30 : Same H29 H30 := fun b u e => (er_same _ _) _ _ (sS _ _ (er_of (ne_of_none e np) (sM _ _ e)))
    have S30 := s29.trans s30
    have F30 := F28.up (nE_mono S30)
    have B30 := B28.same S30
    have l4 : ys4.length = ys.length + 1 := by rw [hys4.length_eq, List.length_append, hys.length_eq]; rfl
    have O4 : OthB A.a_Book H30 ys hk wt p4 := ⟨_, _, _, B4, eqBk_len (by omega), eqBk_len (by omega)⟩
    clear BN sM np ndx ndp sS s30 S30 s29 P29 hw29 npw F28 B28 hO4 B4 l4 hys4 hsy4 nt hr28
    refine ⟨by show 3 ≤ sizeLine; decide, fun Lo nLo => ?_⟩
    have g31 := (Gs.refl B30.sta).new nLo (o := .lst [.non, .ref pr, .ref p4])
    have O31 := O4.up (Same.new nLo (o := .lst [.non, .ref pr, .ref p4]))
    have hL31 : upd H30 Lo (.lst [.non, .ref pr, .ref p4]) Lo = some (.lst ([V.non, .ref pr] ++ [p4].map V.ref)) := upd_same
    have nLs : Lo ≠ st := B30.sta.ne nLo
    have eLo := er_none (st := st) nLo
    refine cast_heap (b := upd H30 Lo (.lst [.non, .ref pr, .ref p4])) rfl ?_
    generalize upd H30 Lo (.lst [.non, .ref pr, .ref p4]) = H31 at g31 O31 hL31 ⊢
    clear O4 nLo
    -- one more
    have F31 := F30.up (nE_gs g31)
    refine ⟨_, rfl, _, rfl, pn, _, rfl, SqL.of (nE_same _ _ F31.n), fun e ne => ?_⟩
    have ec : cutV (ns.map V.str) none (some 1) = (ns.take 1).map V.str := by
      unfold cutV
      rw [HT.sIx_none, show (1 : Int) = ((1 : Nat) : Int) from rfl, HT.sIx_nat, List.map_take]
      simp only [List.drop_zero, Nat.sub_zero, List.length_map]
      rw [List.take_eq_take_iff]
      simp
    rw [ec]
    have g32 := g31.new ne (o := .lst ((ns.take 1).map V.str))
    have O32 := O31.up (Same.new ne (o := .lst ((ns.take 1).map V.str)))
    have hL32 := Same.new ne (o := .lst ((ns.take 1).map V.str)) _ _ hL31
    have he32 : upd H31 e (.lst ((ns.take 1).map V.str)) e = some (.lst ((ns.take 1).map V.str)) := upd_same
    have nLe : e ≠ Lo := (ne_of_none hL31 ne).symm
    refine cast_heap (b := upd H31 e (.lst ((ns.take 1).map V.str))) rfl ?_
    generalize upd H31 e (.lst ((ns.take 1).map V.str)) = H32 at g32 O32 hL32 he32 ⊢
    clear g31 O31 hL31 F31 ne
    refine ⟨e, rfl, ⟨_, SqL.of he32⟩, for_it (walk_list (K := K) (a := e) (xs := (ns.take 1).map V.str)) (fun j σ' H' => ∃ v5 bs, σ' = [some (.ref a), some (.ref st), some (.int (0 + (i : Int))), some (.ref pn), some (.ref pr), v5, some (.ref pg), some (.ref pu), some (.ref p), some (.ref rr), some (.ref D), some (.ref pd), some (.ref Lo), v13, v14] ∧
        Gs st c H30 H' (1000 * (i : Int) + 510 + 64) ∧ H' e = some (.lst ((ns.take 1).map V.str)) ∧ H' Lo = some (.lst ([V.non, .ref pr] ++ bs.map V.ref)) ∧ bs.length = j + 1 ∧ ∀ b ∈ bs, OthB A.a_Book H' ys hk wt b)
      ⟨_, [p4], rfl, g32, he32, hL32, rfl, fun b m => by rw [List.mem_singleton.mp m]; exact O32⟩ (fun j σ' H' _ z => ?_) ?_ (fun σ' H33 z => ?_)⟩
    · obtain ⟨_, _, _, _, z, _⟩ := z
      exact SqL.of z
    · rintro j x σ' H' H'' hj ⟨v5, bs, rfl, g, he, hL, lb, hB⟩ ⟨rfl, hx⟩
      obtain ⟨hj1, rfl⟩ := str_at hx
      have hm : (ns.take 1)[j] ∈ ms := hperm.mem_iff.mpr (List.mem_of_mem_take (List.getElem_mem hj1))
      have j1 : j < 1 := by
        rw [List.length_take] at hj1; omega
      generalize (ns.take 1)[j] = n at hm ⊢
      have F := F30.up (nE_gs g)
      have hr' := nE_same _ _ F.r
      have hP := F.rt.up nE_same
      obtain ⟨q, hv, hq⟩ := hP.val kN hm
      have dg : DGet H'' pr (kV (.inr n)) (some (.ref q)) := .inl ⟨kr, .inr n, .inl hr', rfl, hv.symm⟩
      refine ⟨_, rfl, .inl ⟨rfl, _, SqL.of hL⟩, _, rfl, _, rfl, _, rfl, _, rfl, pr, .ref q, rfl, dg, _, _, _, _, rfl, rfl, hq, rfl, ?_⟩
      refine ⟨_, rfl, _, rfl, pr, .ref q, rfl, dg, _, _, _, _, rfl, rfl, hq, rfl, _, _, rfl, rfl, ?_⟩
      refine ⟨by show 2 ≤ sizeLine; decide, fun t nt => ⟨pr, .inr n, .ref t, kr, rfl, .inl (Same.new nt _ _ hr'), by rw [hP.len]; omega, fun pw H2 npw s2 hw2 => ?_⟩⟩
      have P2 := (((hP.up (Same.new nt)).put (v := .int (wt n + 1)) hm (SqT.of upd_same)).up s2)
      have P2 : Pr2 K H2 ms (fun n => .str (hk n)) (fun x => .int (if x = n then wt n + 1 else wt x)) (putK kr (.inr n) (.ref t)) := P2.congr fun x _ => ⟨rfl, by
        show (if x = n then V.int (wt n + 1) else .int (wt x)) = V.int (if x = n then wt n + 1 else wt x)
        split <;> rfl⟩
      have s2 := (Same.new nt).trans s2
      refine fun p5 dx5 np ndx ndp => ?_
      have sM : Same H2 (upd (upd H2 dx5 (.own p5)) p5 (.ins A.a_Book dx5 [])) := fun b u e => by rw [upd_ne (ne_of_none e np), upd_ne (ne_of_none e ndx)]; exact e
      refine ⟨p5, dx5, pw, _, ms, hk, fun x => if x = n then wt n + 1 else wt x, _, rfl, upd_same, sM _ _ hw2, (P2.up sM).x, hO, fun x _ => ?_, fun H3 ys5 BN hys5 hsy5 sS => ⟨rfl, ?_⟩⟩
      · show 0 ≤ if x = n then wt n + 1 else wt x
        have := hw0 n
        split
        · omega
        · exact hw0 x
      have B5 := BN H3 fun _ _ e _ => e
      have s3 : Same H2 H3 := fun b u e => (er_same _ _) _ _ (sS _ _ (er_of (ne_of_none e np) (sM _ _ e)))
      obtain rfl : ys5 = ys := asc_eq (hys5.trans hys.symm) hsy5 husort
      have S3 := s2.trans s3
      have my : n ∈ ys5 := hys.mem_iff.mpr hm
      have w1 : wt n ≠ (fun x => if x = n then wt n + 1 else wt x) n := by
        show wt n ≠ if n = n then wt n + 1 else wt n
        rw [if_pos rfl]; omega
      have O5 : OthB A.a_Book H3 ys5 hk wt p5 := ⟨_, _, _, B5, eqBk_wait yN my w1, eqBk_wait yN my w1.symm⟩
      have hL3 := S3 _ _ hL
      refine ⟨Lo, _, _, rfl, rfl, hL3, ?_, ?_⟩
      · rw [List.length_append, List.length_map, lb]; exact Nat.lt_of_le_of_lt (show 2 + (j + 1) ≤ 64 by omega) (by decide)
      refine ⟨_, bs ++ [p5], rfl, (g.trans (Gs.of_same g.sta S3)).set B30.sta.hc eLo nLs, by rw [upd_ne nLe]; exact S3 _ _ he, ?_, by rw [List.length_append, lb]; rfl, fun b m => ?_⟩
      · rw [upd_same, List.map_append, ← List.append_assoc]; rfl
      · rcases List.mem_append.mp m with m | m
        · exact ((hB b m).up S3).lset hL3
        · rw [List.mem_singleton.mp m]; exact O5.lset hL3
    obtain ⟨v5'', bs, rfl, g33, _, hL33, lb, hB33⟩ := z
    have F33 := F30.up (nE_gs g33)
    have B33 := B30.gs g33
    have lb : bs.length ≤ 2 := by
      rw [lb, List.length_map, List.length_take]; omega
    clear g33 g32 O32 hL32 he32 F30 B30
    -- the twin
    refine ⟨_, rfl, pr, kr, rfl, nE_same _ _ F33.r, fun H34 il ts s34 nil1 nts1 nin hil hts => ⟨il, _, rfl, SqL.of hil, fun rl nrl => ?_⟩⟩
    have s35 := Same.new nrl (o := .lst (ts.map V.ref).reverse)
    refine ⟨rl, ts.reverse, kr.reverse, rfl, SqL.of (by rw [upd_same, List.map_reverse]), paired_rev (paired_imp (fun t (kv : Key × V) z => SqT.of (s35 _ _ z)) hts), fun pd2 npd2 => ?_⟩
    rw [merge_all kr.reverse [] (by rw [List.nil_append, List.map_reverse, F33.rt.keys, ← List.map_reverse]; exact inr_nd ((List.reverse_perm ms).nodup_iff.mpr kN)), List.nil_append]
    have s36 := (Same.trans s34 s35).trans (Same.new npd2 (o := .dK kr.reverse))
    have hp36 : upd (upd H34 rl (.lst (ts.map V.ref).reverse)) pd2 (.dK kr.reverse) pd2 = some (.dK kr.reverse) := upd_same
    have P36 := (((F33.rt.up nE_same).up s36).rev)
    generalize upd (upd H34 rl (.lst (ts.map V.ref).reverse)) pd2 (.dK kr.reverse) = H36 at s36 hp36 P36 ⊢
    refine fun p6 dx6 np ndx ndp => ?_
    have sM : Same H36 (upd (upd H36 dx6 (.own p6)) p6 (.ins A.a_Book dx6 [])) := fun b u e => by rw [upd_ne (ne_of_none e np), upd_ne (ne_of_none e ndx)]; exact e
    refine ⟨p6, dx6, pd2, _, ms.reverse, hk, wt, _, rfl, upd_same, sM _ _ hp36, (P36.up sM).x, hO.perm (List.reverse_perm ms), fun n _ => hw0 n, fun H37 ys6 BN hys6 hsy6 sS => ⟨rfl, ?_⟩⟩
    have B6 := BN H37 fun _ _ e _ => e
    have s37 : Same H36 H37 := fun b u e => (er_same _ _) _ _ (sS _ _ (er_of (ne_of_none e np) (sM _ _ e)))
    obtain rfl : ys6 = ys := asc_eq ((hys6.trans (List.reverse_perm ms)).trans hys.symm) hsy6 husort
    have S37 := Same.trans s36 s37
    have F37 := F33.up (nE_mono S37)
    have B37 := B33.same S37
    have hL37 := S37 _ _ hL33
    have hB37 : ∀ b ∈ bs, OthB A.a_Book H37 ys6 hk wt b := fun b m => (hB33 b m).up S37
    clear BN sM np ndx ndp sS s37 S37 s36 hp36 P36 npd2 s35 s34 nil1 nts1 nin hil hts nrl F33 B33 hL33 hB33
    have BB := F37.b.up nE_same
    obtain ⟨dx1, qh1, qw1, hp1, _⟩ := id BB.ex
    obtain ⟨dx7, qh7, qw7, hp7, _⟩ := id B6.ex
    refine ⟨_, rfl, _, rfl, p, dx1, _, rfl, hp1, .ins hp7 T.nfB, p, ys6, hk, wt, _, rfl, BB, .inl ⟨p6, ys6, hk, wt, rfl, B6, ?_⟩⟩
    rw [eqBk_refl yN]
    refine ⟨_, rfl, _, rfl, iteF ?_⟩
    refine ⟨_, rfl, _, rfl, p, dx1, _, rfl, hp1, .ins hp7 T.nfB, p, ys6, hk, wt, _, rfl, BB, .inl ⟨p6, ys6, hk, wt, rfl, B6, ?_⟩⟩
    rw [eqBk_refl yN]
    refine ⟨_, rfl, _, rfl, iteF ?_⟩
    -- any
    have fr := nE_same _ _ F37.r
    refine ⟨_, rfl, Lo, rfl, ⟨_, SqL.of hL37⟩, fun D5 hD5 => ?_⟩
    refine lc_it (walk_list (K := K) (a := Lo) (xs := [V.non, .ref pr] ++ bs.map V.ref)) (fun j H' => Same H37 H' ∧ H' D5 = some (.lst ((List.replicate j false).map V.bl))) ⟨Same.new hD5, upd_same⟩ (fun j H' _ z => SqL.of (z.1 _ _ hL37)) ?_ (fun H38 z => ?_)
    · rintro j x H' H'' hj ⟨s1, hD'⟩ ⟨rfl, hx⟩
      have hx := List.mem_of_getElem? hx
      have hj4 : j < 4 := by
        have : j < ([V.non, .ref pr] ++ bs.map V.ref).length := hj
        rw [List.length_append, List.length_map] at this
        simp only [List.length_cons, List.length_nil] at this
        omega
      have gp := s1 _ _ hp1
      have gB := BB.up s1
      have fr1 := s1 _ _ fr
      have fin : ∃ acc, H'' D5 = some (.lst acc) ∧ acc.length < sizeLine ∧ Same H37 (upd H'' D5 (.lst (acc ++ [V.bl false]))) ∧ upd H'' D5 (.lst (acc ++ [V.bl false])) D5 = some (.lst ((List.replicate (j + 1) false).map V.bl)) :=
        ⟨_, hD', by rw [List.length_map, List.length_replicate]; exact Nat.lt_of_lt_of_le hj4 (by decide), fun b u e => by rw [upd_ne (ne_of_none e hD5)]; exact s1 _ _ e, by rw [upd_same, List.replicate_succ', List.map_append]; rfl⟩
      rcases List.mem_append.mp hx with hx | hx
      · simp only [List.mem_cons, List.not_mem_nil, or_false] at hx
        rcases hx with e | e <;> subst e
        · refine ⟨rfl, _, rfl, _, rfl, p, dx1, _, rfl, gp, .ty (T := "NoneType") .non T.nfBN, p, ys6, hk, wt, _, rfl, gB, .inr (.inl ⟨rfl, false, rfl, _, rfl, iteF ?_⟩)⟩
          refine ⟨_, rfl, _, rfl, .inl ⟨rfl, p, dx1, _, rfl, gp, p, ys6, hk, wt, _, rfl, gB, .inr (.inl ⟨rfl, false, rfl, _, rfl, iteF ?_⟩)⟩⟩
          exact ⟨_, rfl, _, rfl, p, dx1, _, rfl, gp, .ty (T := "NoneType") .non T.nfBN, p, ys6, hk, wt, _, rfl, gB, .inr (.inl ⟨rfl, false, rfl, _, rfl, fin⟩)⟩
        · refine ⟨rfl, _, rfl, _, rfl, p, dx1, _, rfl, gp, .ty (T := "dict") (.dK fr1) T.nfBD, p, ys6, hk, wt, _, rfl, gB, .inr (.inr ⟨pr, _, rfl, fr1, false, rfl, _, rfl, iteF ?_⟩)⟩
          refine ⟨_, rfl, _, rfl, .inr (.inl ⟨pr, _, p, dx1, _, rfl, fr1, rfl, gp, p, ys6, hk, wt, _, rfl, gB, .inr (.inr ⟨pr, _, rfl, fr1, false, rfl, _, rfl, iteF ?_⟩)⟩)⟩
          exact ⟨_, rfl, _, rfl, p, dx1, _, rfl, gp, .ty (T := "dict") (.dK fr1) T.nfBD, p, ys6, hk, wt, _, rfl, gB, .inr (.inr ⟨pr, _, rfl, fr1, false, rfl, _, rfl, fin⟩)⟩
      · obtain ⟨b, m, rfl⟩ := List.mem_map.mp hx
        obtain ⟨y', k', w', B', e1, e2⟩ := (hB37 b m).up s1
        obtain ⟨dxb, qhb, qwb, hpb, _⟩ := id B'.ex
        refine ⟨rfl, _, rfl, _, rfl, p, dx1, _, rfl, gp, .ins hpb T.nfB, p, ys6, hk, wt, _, rfl, gB, .inl ⟨b, y', k', w', rfl, B', false, by rw [e1], _, rfl, iteF ?_⟩⟩
        refine ⟨_, rfl, _, rfl, .inr (.inr ⟨b, dxb, _, rfl, hpb, .ins gp T.nfB, b, y', k', w', _, rfl, B', .inl ⟨p, ys6, hk, wt, rfl, gB, false, by rw [e2], _, rfl, iteF ?_⟩⟩)⟩
        exact ⟨_, rfl, _, rfl, p, dx1, _, rfl, gp, .ins hpb T.nfB, p, ys6, hk, wt, _, rfl, gB, .inl ⟨b, y', k', w', rfl, B', false, by rw [e1], _, rfl, fin⟩⟩
    obtain ⟨s38, hD38⟩ := z
    refine ⟨D5, _, rfl, SqL.of hD38, ?_⟩
    rw [any_false]
    refine ⟨_, rfl, iteF ?_⟩
    exact ⟨_, _, _, _, _, _, _, _, _, _, _, _, _, rfl, (B37.same s38).le (by omega) (by omega)⟩
end
end K5
set_option Elab.async false
set_option linter.all false
set_option maxRecDepth 100000
set_option maxHeartbeats 4000000
namespace K5
open PySem L2
local macro_rules | `(tactic| walk_at "rd1") => `(tactic| first
  | refine ⟨_, _, rfl, rfl, ?_⟩
  | refine ⟨_, _, _, _, rfl, rfl, SqL.of (by assumption), rfl, ?_⟩
  | refine ⟨_, _, _, _, rfl, rfl, (by assumption), rfl, ?_⟩
  | refine .inl ⟨_, rfl, ?_⟩
  | refine ⟨_, rfl, ?_⟩
  | refine ⟨(by unfold CMul; omega), ?_⟩
  | refine ⟨(by unfold CPow; omega), ?_⟩
  | refine ⟨(by (try dsimp only); omega), ?_⟩
  | refine ⟨(by unfold CDiv; omega), ?_⟩
  | fail "rd1")
local macro_rules | `(tactic| walk_at "rd") => `(tactic| repeat' (walk_at "rd1"))
section
variable {P : Program} {w : World} {K : PySem.W.Frag} {mg : Str → Option Value} {base : Heap} {A : Ad}

theorem all_mk {l : PySem.W.OpenLaw} {w : World} {K : PySem.W.Frag} {h : Heap} {mg : Str → Option Value} {fa c0 Pt : Addr} (X : K.In h) (G : h.Ns mainGlobals mg) (hfa : mg ("law" : Str) = some (.ref fa))
    {c_NoDish : Addr} {nm_NoDish qn_NoDish : Str} {N_NoDish : Addr} {bs_NoDish bm_NoDish sb_NoDish : List Value} {sn_NoDish : List Str} {ab_NoDish : Bool} {col_NoDish : Option Bool} {dd_NoDish : Option Addr} {k0_NoDish k1_NoDish k2_NoDish k3_NoDish k5_NoDish : Option Value}
    (y1_NoDish : PySem.W.nsIn K mainGlobals "NoDish" = some (some (.ref c_NoDish)))
    (oe_NoDish : K.lookup c_NoDish = some (excClassObj nm_NoDish qn_NoDish c_NoDish N_NoDish bs_NoDish bm_NoDish true sn_NoDish sb_NoDish ab_NoDish col_NoDish dd_NoDish k0_NoDish k1_NoDish k2_NoDish k3_NoDish k5_NoDish "ValueError.__new__")) (re_NoDish : PySem.HandSPX.refsVE bm_NoDish = true) (sa_NoDish : PySem.W.findIn K (.ref c_NoDish) "__setattr__" = some (some (.builtin "object.__setattr__"))) (sx_NoDish : PySem.W.subIn K (.ref c_NoDish) (.type "BaseException") = some true) (ty_NoDish : PySem.W.typeIn K (.ref c_NoDish) = some (.type "type")) (ke_NoDish : PySem.W.keepIn K (.ref c_NoDish) = true)
    (ga_NoDish : PySem.W.findIn K (.ref c_NoDish) "__getattribute__" = some (some (.builtin "BaseException.__getattribute__"))) (gg_NoDish : PySem.W.findIn K (.ref c_NoDish) "__getattr__" = some none) (hd_NoDish : PySem.W.hasDictIn K c_NoDish = true)
    (z_NoDish_name : PySem.W.findIn K (.ref c_NoDish) "name" = some none)
    {c_Hanging : Addr}
    (y1_Hanging : PySem.W.nsIn K mainGlobals "Hanging" = some (some (.ref c_Hanging)))
    (y2_Hanging : PySem.W.plainGet K c_Hanging Str.empty = true) (y3_Hanging : PySem.W.hasDictIn K c_Hanging = true) (y4_Hanging : PySem.W.plainOver K c_Hanging = true) (y5_Hanging : PySem.W.findIn K (.ref c_Hanging) "__setattr__" = some (some (.builtin "object.__setattr__"))) (y6_Hanging : PySem.W.makesIn K c_Hanging = true) (y7_Hanging : PySem.W.keepIn K (.ref c_Hanging) = true)
    (z_Hanging_hooks : PySem.W.findIn K (.ref c_Hanging) "hooks" = some none)
    {c_Book : Addr}
    (y1_Book : PySem.W.nsIn K mainGlobals "Book" = some (some (.ref c_Book)))
    (y2_Book : PySem.W.plainGet K c_Book Str.empty = true) (y3_Book : PySem.W.hasDictIn K c_Book = true) (y4_Book : PySem.W.plainOver K c_Book = true) (y5_Book : PySem.W.findIn K (.ref c_Book) "__setattr__" = some (some (.builtin "object.__setattr__"))) (y6_Book : PySem.W.makesIn K c_Book = true) (y7_Book : PySem.W.keepIn K (.ref c_Book) = true)
    (z_Book_hooks : PySem.W.findIn K (.ref c_Book) "hooks" = some none)
    (z_Book_waits : PySem.W.findIn K (.ref c_Book) "waits" = some none)
    {f_is_integer : Addr} {od_is_integer an_is_integer : Option Addr} {sl_is_integer : Array (Option Value)} {oc_is_integer kV_is_integer dc_is_integer pm_is_integer cd_is_integer ct_is_integer : Value}
    (x1_is_integer : PySem.W.nsIn K mainGlobals "is_integer" = some (some (.ref f_is_integer)))
    (x2_is_integer : K.lookup f_is_integer = some ⟨oc_is_integer, od_is_integer, .func (PySem.W.fnOf "is_integer" "is_integer" (defArgs s_is_integer) (defBody s_is_integer) (defScope s_is_integer) .none kV_is_integer dc_is_integer pm_is_integer an_is_integer cd_is_integer ct_is_integer), sl_is_integer⟩)
    (x3_is_integer : PySem.W.codeIn K cd_is_integer "is_integer" = true) (x4_is_integer : PySem.W.keepIn K (.ref f_is_integer) = true)
    {f_is_list : Addr} {od_is_list an_is_list : Option Addr} {sl_is_list : Array (Option Value)} {oc_is_list kV_is_list dc_is_list pm_is_list cd_is_list ct_is_list : Value}
    (x1_is_list : PySem.W.nsIn K mainGlobals "is_list" = some (some (.ref f_is_list)))
    (x2_is_list : K.lookup f_is_list = some ⟨oc_is_list, od_is_list, .func (PySem.W.fnOf "is_list" "is_list" (defArgs s_is_list) (defBody s_is_list) (defScope s_is_list) .none kV_is_list dc_is_list pm_is_list an_is_list cd_is_list ct_is_list), sl_is_list⟩)
    (x3_is_list : PySem.W.codeIn K cd_is_list "is_list" = true) (x4_is_list : PySem.W.keepIn K (.ref f_is_list) = true)
    {f_is_name : Addr} {od_is_name an_is_name : Option Addr} {sl_is_name : Array (Option Value)} {oc_is_name kV_is_name dc_is_name pm_is_name cd_is_name ct_is_name : Value}
    (x1_is_name : PySem.W.nsIn K mainGlobals "is_name" = some (some (.ref f_is_name)))
    (x2_is_name : K.lookup f_is_name = some ⟨oc_is_name, od_is_name, .func (PySem.W.fnOf "is_name" "is_name" (defArgs s_is_name) (defBody s_is_name) (defScope s_is_name) .none kV_is_name dc_is_name pm_is_name an_is_name cd_is_name ct_is_name), sl_is_name⟩)
    (x3_is_name : PySem.W.codeIn K cd_is_name "is_name" = true) (x4_is_name : PySem.W.keepIn K (.ref f_is_name) = true)
    {f_is_dish : Addr} {od_is_dish an_is_dish : Option Addr} {sl_is_dish : Array (Option Value)} {oc_is_dish kV_is_dish dc_is_dish pm_is_dish cd_is_dish ct_is_dish : Value}
    (x1_is_dish : PySem.W.nsIn K mainGlobals "is_dish" = some (some (.ref f_is_dish)))
    (x2_is_dish : K.lookup f_is_dish = some ⟨oc_is_dish, od_is_dish, .func (PySem.W.fnOf "is_dish" "is_dish" (defArgs s_is_dish) (defBody s_is_dish) (defScope s_is_dish) .none kV_is_dish dc_is_dish pm_is_dish an_is_dish cd_is_dish ct_is_dish), sl_is_dish⟩)
    (x3_is_dish : PySem.W.codeIn K cd_is_dish "is_dish" = true) (x4_is_dish : PySem.W.keepIn K (.ref f_is_dish) = true)
    {f_alike : Addr} {od_alike an_alike : Option Addr} {sl_alike : Array (Option Value)} {oc_alike kV_alike dc_alike pm_alike cd_alike ct_alike : Value}
    (x1_alike : PySem.W.nsIn K mainGlobals "alike" = some (some (.ref f_alike)))
    (x2_alike : K.lookup f_alike = some ⟨oc_alike, od_alike, .func (PySem.W.fnOf "alike" "alike" (defArgs s_alike) (defBody s_alike) (defScope s_alike) .none kV_alike dc_alike pm_alike an_alike cd_alike ct_alike), sl_alike⟩)
    (x3_alike : PySem.W.codeIn K cd_alike "alike" = true) (x4_alike : PySem.W.keepIn K (.ref f_alike) = true)
    {f_copied : Addr} {od_copied an_copied : Option Addr} {sl_copied : Array (Option Value)} {oc_copied kV_copied dc_copied pm_copied cd_copied ct_copied : Value}
    (x1_copied : PySem.W.nsIn K mainGlobals "copied" = some (some (.ref f_copied)))
    (x2_copied : K.lookup f_copied = some ⟨oc_copied, od_copied, .func (PySem.W.fnOf "copied" "copied" (defArgs s_copied) (defBody s_copied) (defScope s_copied) .none kV_copied dc_copied pm_copied an_copied cd_copied ct_copied), sl_copied⟩)
    (x3_copied : PySem.W.codeIn K cd_copied "copied" = true) (x4_copied : PySem.W.keepIn K (.ref f_copied) = true)
    {f_NoDish___init__ : Addr} {od_NoDish___init__ an_NoDish___init__ : Option Addr} {sl_NoDish___init__ : Array (Option Value)} {oc_NoDish___init__ kV_NoDish___init__ dc_NoDish___init__ pm_NoDish___init__ cd_NoDish___init__ ct_NoDish___init__ : Value}
    (x1_NoDish___init__ : PySem.W.findIn K (.ref c_NoDish) "__init__" = some (some (.ref f_NoDish___init__))) (x5_NoDish___init__ : PySem.W.isFn K (.ref f_NoDish___init__) = true)
    (x2_NoDish___init__ : K.lookup f_NoDish___init__ = some ⟨oc_NoDish___init__, od_NoDish___init__, .func (PySem.W.fnOf "__init__" "NoDish.__init__" (defArgs s_NoDish___init__) (defBody s_NoDish___init__) (defScope s_NoDish___init__) .none kV_NoDish___init__ dc_NoDish___init__ pm_NoDish___init__ an_NoDish___init__ cd_NoDish___init__ ct_NoDish___init__), sl_NoDish___init__⟩)
    (x3_NoDish___init__ : PySem.W.codeIn K cd_NoDish___init__ "NoDish.__init__" = true) (x4_NoDish___init__ : PySem.W.keepIn K (.ref f_NoDish___init__) = true)
    {f_check_dish : Addr} {od_check_dish an_check_dish : Option Addr} {sl_check_dish : Array (Option Value)} {oc_check_dish kV_check_dish dc_check_dish pm_check_dish cd_check_dish ct_check_dish : Value}
    (x1_check_dish : PySem.W.nsIn K mainGlobals "check_dish" = some (some (.ref f_check_dish)))
    (x2_check_dish : K.lookup f_check_dish = some ⟨oc_check_dish, od_check_dish, .func (PySem.W.fnOf "check_dish" "check_dish" (defArgs s_check_dish) (defBody s_check_dish) (defScope s_check_dish) .none kV_check_dish dc_check_dish pm_check_dish an_check_dish cd_check_dish ct_check_dish), sl_check_dish⟩)
    (x3_check_dish : PySem.W.codeIn K cd_check_dish "check_dish" = true) (x4_check_dish : PySem.W.keepIn K (.ref f_check_dish) = true)
    {f_way_up : Addr} {od_way_up an_way_up : Option Addr} {sl_way_up : Array (Option Value)} {oc_way_up kV_way_up dc_way_up pm_way_up cd_way_up ct_way_up : Value}
    (x1_way_up : PySem.W.nsIn K mainGlobals "way_up" = some (some (.ref f_way_up)))
    (x2_way_up : K.lookup f_way_up = some ⟨oc_way_up, od_way_up, .func (PySem.W.fnOf "way_up" "way_up" (defArgs s_way_up) (defBody s_way_up) (defScope s_way_up) .none kV_way_up dc_way_up pm_way_up an_way_up cd_way_up ct_way_up), sl_way_up⟩)
    (x3_way_up : PySem.W.codeIn K cd_way_up "way_up" = true) (x4_way_up : PySem.W.keepIn K (.ref f_way_up) = true)
    {f_Hanging___init__ : Addr} {od_Hanging___init__ an_Hanging___init__ : Option Addr} {sl_Hanging___init__ : Array (Option Value)} {oc_Hanging___init__ kV_Hanging___init__ dc_Hanging___init__ pm_Hanging___init__ cd_Hanging___init__ ct_Hanging___init__ : Value}
    (x1_Hanging___init__ : PySem.W.findIn K (.ref c_Hanging) "__init__" = some (some (.ref f_Hanging___init__))) (x5_Hanging___init__ : PySem.W.isFn K (.ref f_Hanging___init__) = true)
    (x2_Hanging___init__ : K.lookup f_Hanging___init__ = some ⟨oc_Hanging___init__, od_Hanging___init__, .func (PySem.W.fnOf "__init__" "Hanging.__init__" (defArgs s_Hanging___init__) (defBody s_Hanging___init__) (defScope s_Hanging___init__) .none kV_Hanging___init__ dc_Hanging___init__ pm_Hanging___init__ an_Hanging___init__ cd_Hanging___init__ ct_Hanging___init__), sl_Hanging___init__⟩)
    (x3_Hanging___init__ : PySem.W.codeIn K cd_Hanging___init__ "Hanging.__init__" = true) (x4_Hanging___init__ : PySem.W.keepIn K (.ref f_Hanging___init__) = true)
    {f_Hanging_rows : Addr} {od_Hanging_rows an_Hanging_rows : Option Addr} {sl_Hanging_rows : Array (Option Value)} {oc_Hanging_rows kV_Hanging_rows dc_Hanging_rows pm_Hanging_rows cd_Hanging_rows ct_Hanging_rows : Value}
    (x1_Hanging_rows : PySem.W.findIn K (.ref c_Hanging) "rows" = some (some (.ref f_Hanging_rows))) (x5_Hanging_rows : PySem.W.isFn K (.ref f_Hanging_rows) = true)
    (x2_Hanging_rows : K.lookup f_Hanging_rows = some ⟨oc_Hanging_rows, od_Hanging_rows, .func (PySem.W.fnOf "rows" "Hanging.rows" (defArgs s_Hanging_rows) (defBody s_Hanging_rows) (defScope s_Hanging_rows) .none kV_Hanging_rows dc_Hanging_rows pm_Hanging_rows an_Hanging_rows cd_Hanging_rows ct_Hanging_rows), sl_Hanging_rows⟩)
    (x3_Hanging_rows : PySem.W.codeIn K cd_Hanging_rows "Hanging.rows" = true) (x4_Hanging_rows : PySem.W.keepIn K (.ref f_Hanging_rows) = true)
    {f_Hanging___eq__ : Addr} {od_Hanging___eq__ an_Hanging___eq__ : Option Addr} {sl_Hanging___eq__ : Array (Option Value)} {oc_Hanging___eq__ kV_Hanging___eq__ dc_Hanging___eq__ pm_Hanging___eq__ cd_Hanging___eq__ ct_Hanging___eq__ : Value}
    (x1_Hanging___eq__ : PySem.W.findIn K (.ref c_Hanging) "__eq__" = some (some (.ref f_Hanging___eq__))) (x5_Hanging___eq__ : PySem.W.isFn K (.ref f_Hanging___eq__) = true)
    (x2_Hanging___eq__ : K.lookup f_Hanging___eq__ = some ⟨oc_Hanging___eq__, od_Hanging___eq__, .func (PySem.W.fnOf "__eq__" "Hanging.__eq__" (defArgs s_Hanging___eq__) (defBody s_Hanging___eq__) (defScope s_Hanging___eq__) .none kV_Hanging___eq__ dc_Hanging___eq__ pm_Hanging___eq__ an_Hanging___eq__ cd_Hanging___eq__ ct_Hanging___eq__), sl_Hanging___eq__⟩)
    (x3_Hanging___eq__ : PySem.W.codeIn K cd_Hanging___eq__ "Hanging.__eq__" = true) (x4_Hanging___eq__ : PySem.W.keepIn K (.ref f_Hanging___eq__) = true)
    {f_check_rows : Addr} {od_check_rows an_check_rows : Option Addr} {sl_check_rows : Array (Option Value)} {oc_check_rows kV_check_rows dc_check_rows pm_check_rows cd_check_rows ct_check_rows : Value}
    (x1_check_rows : PySem.W.nsIn K mainGlobals "check_rows" = some (some (.ref f_check_rows)))
    (x2_check_rows : K.lookup f_check_rows = some ⟨oc_check_rows, od_check_rows, .func (PySem.W.fnOf "check_rows" "check_rows" (defArgs s_check_rows) (defBody s_check_rows) (defScope s_check_rows) .none kV_check_rows dc_check_rows pm_check_rows an_check_rows cd_check_rows ct_check_rows), sl_check_rows⟩)
    (x3_check_rows : PySem.W.codeIn K cd_check_rows "check_rows" = true) (x4_check_rows : PySem.W.keepIn K (.ref f_check_rows) = true)
    {f_is_hook : Addr} {od_is_hook an_is_hook : Option Addr} {sl_is_hook : Array (Option Value)} {oc_is_hook kV_is_hook dc_is_hook pm_is_hook cd_is_hook ct_is_hook : Value}
    (x1_is_hook : PySem.W.nsIn K mainGlobals "is_hook" = some (some (.ref f_is_hook)))
    (x2_is_hook : K.lookup f_is_hook = some ⟨oc_is_hook, od_is_hook, .func (PySem.W.fnOf "is_hook" "is_hook" (defArgs s_is_hook) (defBody s_is_hook) (defScope s_is_hook) .none kV_is_hook dc_is_hook pm_is_hook an_is_hook cd_is_hook ct_is_hook), sl_is_hook⟩)
    (x3_is_hook : PySem.W.codeIn K cd_is_hook "is_hook" = true) (x4_is_hook : PySem.W.keepIn K (.ref f_is_hook) = true)
    {f_check_rounds : Addr} {od_check_rounds an_check_rounds : Option Addr} {sl_check_rounds : Array (Option Value)} {oc_check_rounds kV_check_rounds dc_check_rounds pm_check_rounds cd_check_rounds ct_check_rounds : Value}
    (x1_check_rounds : PySem.W.nsIn K mainGlobals "check_rounds" = some (some (.ref f_check_rounds)))
    (x2_check_rounds : K.lookup f_check_rounds = some ⟨oc_check_rounds, od_check_rounds, .func (PySem.W.fnOf "check_rounds" "check_rounds" (defArgs s_check_rounds) (defBody s_check_rounds) (defScope s_check_rounds) .none kV_check_rounds dc_check_rounds pm_check_rounds an_check_rounds cd_check_rounds ct_check_rounds), sl_check_rounds⟩)
    (x3_check_rounds : PySem.W.codeIn K cd_check_rounds "check_rounds" = true) (x4_check_rounds : PySem.W.keepIn K (.ref f_check_rounds) = true)
    {f_round_from : Addr} {od_round_from an_round_from : Option Addr} {sl_round_from : Array (Option Value)} {oc_round_from kV_round_from dc_round_from pm_round_from cd_round_from ct_round_from : Value}
    (x1_round_from : PySem.W.nsIn K mainGlobals "round_from" = some (some (.ref f_round_from)))
    (x2_round_from : K.lookup f_round_from = some ⟨oc_round_from, od_round_from, .func (PySem.W.fnOf "round_from" "round_from" (defArgs s_round_from) (defBody s_round_from) (defScope s_round_from) .none kV_round_from dc_round_from pm_round_from an_round_from cd_round_from ct_round_from), sl_round_from⟩)
    (x3_round_from : PySem.W.codeIn K cd_round_from "round_from" = true) (x4_round_from : PySem.W.keepIn K (.ref f_round_from) = true)
    {f_Book___init__ : Addr} {od_Book___init__ an_Book___init__ : Option Addr} {sl_Book___init__ : Array (Option Value)} {oc_Book___init__ kV_Book___init__ dc_Book___init__ pm_Book___init__ cd_Book___init__ ct_Book___init__ : Value}
    (x1_Book___init__ : PySem.W.findIn K (.ref c_Book) "__init__" = some (some (.ref f_Book___init__))) (x5_Book___init__ : PySem.W.isFn K (.ref f_Book___init__) = true)
    (x2_Book___init__ : K.lookup f_Book___init__ = some ⟨oc_Book___init__, od_Book___init__, .func (PySem.W.fnOf "__init__" "Book.__init__" (defArgs s_Book___init__) (defBody s_Book___init__) (defScope s_Book___init__) .none kV_Book___init__ dc_Book___init__ pm_Book___init__ an_Book___init__ cd_Book___init__ ct_Book___init__), sl_Book___init__⟩)
    (x3_Book___init__ : PySem.W.codeIn K cd_Book___init__ "Book.__init__" = true) (x4_Book___init__ : PySem.W.keepIn K (.ref f_Book___init__) = true)
    {f_Book_of : Addr} {od_Book_of an_Book_of : Option Addr} {sl_Book_of : Array (Option Value)} {oc_Book_of kV_Book_of dc_Book_of pm_Book_of cd_Book_of ct_Book_of : Value}
    {p_Book_of : Addr} {r_Book_of : List Value} (x1_Book_of : PySem.W.findCls K (.ref c_Book) (.type "type") "of" = some (.get (.builtin "staticmethod.__get__") (.ref p_Book_of) .none (.ref c_Book))) (x5_Book_of : PySem.W.recIn K p_Book_of "staticmethod" = some (.ref f_Book_of :: r_Book_of))
    (x2_Book_of : K.lookup f_Book_of = some ⟨oc_Book_of, od_Book_of, .func (PySem.W.fnOf "of" "Book.of" (defArgs s_Book_of) (defBody s_Book_of) (defScope s_Book_of) .none kV_Book_of dc_Book_of pm_Book_of an_Book_of cd_Book_of ct_Book_of), sl_Book_of⟩)
    (x3_Book_of : PySem.W.codeIn K cd_Book_of "Book.of" = true) (x4_Book_of : PySem.W.keepIn K (.ref f_Book_of) = true)
    {f_Book_rows : Addr} {od_Book_rows an_Book_rows : Option Addr} {sl_Book_rows : Array (Option Value)} {oc_Book_rows kV_Book_rows dc_Book_rows pm_Book_rows cd_Book_rows ct_Book_rows : Value}
    (x1_Book_rows : PySem.W.findIn K (.ref c_Book) "rows" = some (some (.ref f_Book_rows))) (x5_Book_rows : PySem.W.isFn K (.ref f_Book_rows) = true)
    (x2_Book_rows : K.lookup f_Book_rows = some ⟨oc_Book_rows, od_Book_rows, .func (PySem.W.fnOf "rows" "Book.rows" (defArgs s_Book_rows) (defBody s_Book_rows) (defScope s_Book_rows) .none kV_Book_rows dc_Book_rows pm_Book_rows an_Book_rows cd_Book_rows ct_Book_rows), sl_Book_rows⟩)
    (x3_Book_rows : PySem.W.codeIn K cd_Book_rows "Book.rows" = true) (x4_Book_rows : PySem.W.keepIn K (.ref f_Book_rows) = true)
    {f_Book_hanging : Addr} {od_Book_hanging an_Book_hanging : Option Addr} {sl_Book_hanging : Array (Option Value)} {oc_Book_hanging kV_Book_hanging dc_Book_hanging pm_Book_hanging cd_Book_hanging ct_Book_hanging : Value}
    (x1_Book_hanging : PySem.W.findIn K (.ref c_Book) "hanging" = some (some (.ref f_Book_hanging))) (x5_Book_hanging : PySem.W.isFn K (.ref f_Book_hanging) = true)
    (x2_Book_hanging : K.lookup f_Book_hanging = some ⟨oc_Book_hanging, od_Book_hanging, .func (PySem.W.fnOf "hanging" "Book.hanging" (defArgs s_Book_hanging) (defBody s_Book_hanging) (defScope s_Book_hanging) .none kV_Book_hanging dc_Book_hanging pm_Book_hanging an_Book_hanging cd_Book_hanging ct_Book_hanging), sl_Book_hanging⟩)
    (x3_Book_hanging : PySem.W.codeIn K cd_Book_hanging "Book.hanging" = true) (x4_Book_hanging : PySem.W.keepIn K (.ref f_Book_hanging) = true)
    {f_Book_wait : Addr} {od_Book_wait an_Book_wait : Option Addr} {sl_Book_wait : Array (Option Value)} {oc_Book_wait kV_Book_wait dc_Book_wait pm_Book_wait cd_Book_wait ct_Book_wait : Value}
    (x1_Book_wait : PySem.W.findIn K (.ref c_Book) "wait" = some (some (.ref f_Book_wait))) (x5_Book_wait : PySem.W.isFn K (.ref f_Book_wait) = true)
    (x2_Book_wait : K.lookup f_Book_wait = some ⟨oc_Book_wait, od_Book_wait, .func (PySem.W.fnOf "wait" "Book.wait" (defArgs s_Book_wait) (defBody s_Book_wait) (defScope s_Book_wait) .none kV_Book_wait dc_Book_wait pm_Book_wait an_Book_wait cd_Book_wait ct_Book_wait), sl_Book_wait⟩)
    (x3_Book_wait : PySem.W.codeIn K cd_Book_wait "Book.wait" = true) (x4_Book_wait : PySem.W.keepIn K (.ref f_Book_wait) = true)
    {f_Book_added : Addr} {od_Book_added an_Book_added : Option Addr} {sl_Book_added : Array (Option Value)} {oc_Book_added kV_Book_added dc_Book_added pm_Book_added cd_Book_added ct_Book_added : Value}
    (x1_Book_added : PySem.W.findIn K (.ref c_Book) "added" = some (some (.ref f_Book_added))) (x5_Book_added : PySem.W.isFn K (.ref f_Book_added) = true)
    (x2_Book_added : K.lookup f_Book_added = some ⟨oc_Book_added, od_Book_added, .func (PySem.W.fnOf "added" "Book.added" (defArgs s_Book_added) (defBody s_Book_added) (defScope s_Book_added) .none kV_Book_added dc_Book_added pm_Book_added an_Book_added cd_Book_added ct_Book_added), sl_Book_added⟩)
    (x3_Book_added : PySem.W.codeIn K cd_Book_added "Book.added" = true) (x4_Book_added : PySem.W.keepIn K (.ref f_Book_added) = true)
    {f_Book___getitem__ : Addr} {od_Book___getitem__ an_Book___getitem__ : Option Addr} {sl_Book___getitem__ : Array (Option Value)} {oc_Book___getitem__ kV_Book___getitem__ dc_Book___getitem__ pm_Book___getitem__ cd_Book___getitem__ ct_Book___getitem__ : Value}
    (x1_Book___getitem__ : PySem.W.findIn K (.ref c_Book) "__getitem__" = some (some (.ref f_Book___getitem__))) (x5_Book___getitem__ : PySem.W.isFn K (.ref f_Book___getitem__) = true)
    (x2_Book___getitem__ : K.lookup f_Book___getitem__ = some ⟨oc_Book___getitem__, od_Book___getitem__, .func (PySem.W.fnOf "__getitem__" "Book.__getitem__" (defArgs s_Book___getitem__) (defBody s_Book___getitem__) (defScope s_Book___getitem__) .none kV_Book___getitem__ dc_Book___getitem__ pm_Book___getitem__ an_Book___getitem__ cd_Book___getitem__ ct_Book___getitem__), sl_Book___getitem__⟩)
    (x3_Book___getitem__ : PySem.W.codeIn K cd_Book___getitem__ "Book.__getitem__" = true) (x4_Book___getitem__ : PySem.W.keepIn K (.ref f_Book___getitem__) = true)
    {f_Book___iter__ : Addr} {od_Book___iter__ an_Book___iter__ : Option Addr} {sl_Book___iter__ : Array (Option Value)} {oc_Book___iter__ kV_Book___iter__ dc_Book___iter__ pm_Book___iter__ cd_Book___iter__ ct_Book___iter__ : Value}
    (x1_Book___iter__ : PySem.W.findIn K (.ref c_Book) "__iter__" = some (some (.ref f_Book___iter__))) (x5_Book___iter__ : PySem.W.isFn K (.ref f_Book___iter__) = true)
    (x2_Book___iter__ : K.lookup f_Book___iter__ = some ⟨oc_Book___iter__, od_Book___iter__, .func (PySem.W.fnOf "__iter__" "Book.__iter__" (defArgs s_Book___iter__) (defBody s_Book___iter__) (defScope s_Book___iter__) .none kV_Book___iter__ dc_Book___iter__ pm_Book___iter__ an_Book___iter__ cd_Book___iter__ ct_Book___iter__), sl_Book___iter__⟩)
    (x3_Book___iter__ : PySem.W.codeIn K cd_Book___iter__ "Book.__iter__" = true) (x4_Book___iter__ : PySem.W.keepIn K (.ref f_Book___iter__) = true)
    {f_Book___eq__ : Addr} {od_Book___eq__ an_Book___eq__ : Option Addr} {sl_Book___eq__ : Array (Option Value)} {oc_Book___eq__ kV_Book___eq__ dc_Book___eq__ pm_Book___eq__ cd_Book___eq__ ct_Book___eq__ : Value}
    (x1_Book___eq__ : PySem.W.findIn K (.ref c_Book) "__eq__" = some (some (.ref f_Book___eq__))) (x5_Book___eq__ : PySem.W.isFn K (.ref f_Book___eq__) = true)
    (x2_Book___eq__ : K.lookup f_Book___eq__ = some ⟨oc_Book___eq__, od_Book___eq__, .func (PySem.W.fnOf "__eq__" "Book.__eq__" (defArgs s_Book___eq__) (defBody s_Book___eq__) (defScope s_Book___eq__) .none kV_Book___eq__ dc_Book___eq__ pm_Book___eq__ an_Book___eq__ cd_Book___eq__ ct_Book___eq__), sl_Book___eq__⟩)
    (x3_Book___eq__ : PySem.W.codeIn K cd_Book___eq__ "Book.__eq__" = true) (x4_Book___eq__ : PySem.W.keepIn K (.ref f_Book___eq__) = true)
    {f_check_entries : Addr} {od_check_entries an_check_entries : Option Addr} {sl_check_entries : Array (Option Value)} {oc_check_entries kV_check_entries dc_check_entries pm_check_entries cd_check_entries ct_check_entries : Value}
    (x1_check_entries : PySem.W.nsIn K mainGlobals "check_entries" = some (some (.ref f_check_entries)))
    (x2_check_entries : K.lookup f_check_entries = some ⟨oc_check_entries, od_check_entries, .func (PySem.W.fnOf "check_entries" "check_entries" (defArgs s_check_entries) (defBody s_check_entries) (defScope s_check_entries) .none kV_check_entries dc_check_entries pm_check_entries an_check_entries cd_check_entries ct_check_entries), sl_check_entries⟩)
    (x3_check_entries : PySem.W.codeIn K cd_check_entries "check_entries" = true) (x4_check_entries : PySem.W.keepIn K (.ref f_check_entries) = true)
    {f_is_entry : Addr} {od_is_entry an_is_entry : Option Addr} {sl_is_entry : Array (Option Value)} {oc_is_entry kV_is_entry dc_is_entry pm_is_entry cd_is_entry ct_is_entry : Value}
    (x1_is_entry : PySem.W.nsIn K mainGlobals "is_entry" = some (some (.ref f_is_entry)))
    (x2_is_entry : K.lookup f_is_entry = some ⟨oc_is_entry, od_is_entry, .func (PySem.W.fnOf "is_entry" "is_entry" (defArgs s_is_entry) (defBody s_is_entry) (defScope s_is_entry) .none kV_is_entry dc_is_entry pm_is_entry an_is_entry cd_is_entry ct_is_entry), sl_is_entry⟩)
    (x3_is_entry : PySem.W.codeIn K cd_is_entry "is_entry" = true) (x4_is_entry : PySem.W.keepIn K (.ref f_is_entry) = true)
    {f_is_wait : Addr} {od_is_wait an_is_wait : Option Addr} {sl_is_wait : Array (Option Value)} {oc_is_wait kV_is_wait dc_is_wait pm_is_wait cd_is_wait ct_is_wait : Value}
    (x1_is_wait : PySem.W.nsIn K mainGlobals "is_wait" = some (some (.ref f_is_wait)))
    (x2_is_wait : K.lookup f_is_wait = some ⟨oc_is_wait, od_is_wait, .func (PySem.W.fnOf "is_wait" "is_wait" (defArgs s_is_wait) (defBody s_is_wait) (defScope s_is_wait) .none kV_is_wait dc_is_wait pm_is_wait an_is_wait cd_is_wait ct_is_wait), sl_is_wait⟩)
    (x3_is_wait : PySem.W.codeIn K cd_is_wait "is_wait" = true) (x4_is_wait : PySem.W.keepIn K (.ref f_is_wait) = true)
    {f_check_waits : Addr} {od_check_waits an_check_waits : Option Addr} {sl_check_waits : Array (Option Value)} {oc_check_waits kV_check_waits dc_check_waits pm_check_waits cd_check_waits ct_check_waits : Value}
    (x1_check_waits : PySem.W.nsIn K mainGlobals "check_waits" = some (some (.ref f_check_waits)))
    (x2_check_waits : K.lookup f_check_waits = some ⟨oc_check_waits, od_check_waits, .func (PySem.W.fnOf "check_waits" "check_waits" (defArgs s_check_waits) (defBody s_check_waits) (defScope s_check_waits) .none kV_check_waits dc_check_waits pm_check_waits an_check_waits cd_check_waits ct_check_waits), sl_check_waits⟩)
    (x3_check_waits : PySem.W.codeIn K cd_check_waits "check_waits" = true) (x4_check_waits : PySem.W.keepIn K (.ref f_check_waits) = true)
    {f_sum_ahead : Addr} {od_sum_ahead an_sum_ahead : Option Addr} {sl_sum_ahead : Array (Option Value)} {oc_sum_ahead kV_sum_ahead dc_sum_ahead pm_sum_ahead cd_sum_ahead ct_sum_ahead : Value}
    (x1_sum_ahead : PySem.W.nsIn K mainGlobals "sum_ahead" = some (some (.ref f_sum_ahead)))
    (x2_sum_ahead : K.lookup f_sum_ahead = some ⟨oc_sum_ahead, od_sum_ahead, .func (PySem.W.fnOf "sum_ahead" "sum_ahead" (defArgs s_sum_ahead) (defBody s_sum_ahead) (defScope s_sum_ahead) .none kV_sum_ahead dc_sum_ahead pm_sum_ahead an_sum_ahead cd_sum_ahead ct_sum_ahead), sl_sum_ahead⟩)
    (x3_sum_ahead : PySem.W.codeIn K cd_sum_ahead "sum_ahead" = true) (x4_sum_ahead : PySem.W.keepIn K (.ref f_sum_ahead) = true)
    {f__law_fresh : Addr} {od__law_fresh an__law_fresh : Option Addr} {sl__law_fresh : Array (Option Value)} {oc__law_fresh kV__law_fresh dc__law_fresh pm__law_fresh cd__law_fresh ct__law_fresh : Value}
    (x1__law_fresh : PySem.W.nsIn K mainGlobals "_law_fresh" = some (some (.ref f__law_fresh)))
    (x2__law_fresh : K.lookup f__law_fresh = some ⟨oc__law_fresh, od__law_fresh, .func (PySem.W.fnOf "_law_fresh" "_law_fresh" (defArgs s__law_fresh) (defBody s__law_fresh) (defScope s__law_fresh) .none kV__law_fresh dc__law_fresh pm__law_fresh an__law_fresh cd__law_fresh ct__law_fresh), sl__law_fresh⟩)
    (x3__law_fresh : PySem.W.codeIn K cd__law_fresh "_law_fresh" = true) (x4__law_fresh : PySem.W.keepIn K (.ref f__law_fresh) = true)
    {f__law_take : Addr} {od__law_take an__law_take : Option Addr} {sl__law_take : Array (Option Value)} {oc__law_take kV__law_take dc__law_take pm__law_take cd__law_take ct__law_take : Value}
    (x1__law_take : PySem.W.nsIn K mainGlobals "_law_take" = some (some (.ref f__law_take)))
    (x2__law_take : K.lookup f__law_take = some ⟨oc__law_take, od__law_take, .func (PySem.W.fnOf "_law_take" "_law_take" (defArgs s__law_take) (defBody s__law_take) (defScope s__law_take) .none kV__law_take dc__law_take pm__law_take an__law_take cd__law_take ct__law_take), sl__law_take⟩)
    (x3__law_take : PySem.W.codeIn K cd__law_take "_law_take" = true) (x4__law_take : PySem.W.keepIn K (.ref f__law_take) = true)
    {f__law_one : Addr} {od__law_one an__law_one : Option Addr} {sl__law_one : Array (Option Value)} {oc__law_one kV__law_one dc__law_one pm__law_one cd__law_one ct__law_one : Value}
    (x1__law_one : PySem.W.nsIn K mainGlobals "_law_one" = some (some (.ref f__law_one)))
    (x2__law_one : K.lookup f__law_one = some ⟨oc__law_one, od__law_one, .func (PySem.W.fnOf "_law_one" "_law_one" (defArgs s__law_one) (defBody s__law_one) (defScope s__law_one) .none kV__law_one dc__law_one pm__law_one an__law_one cd__law_one ct__law_one), sl__law_one⟩)
    (x3__law_one : PySem.W.codeIn K cd__law_one "_law_one" = true) (x4__law_one : PySem.W.keepIn K (.ref f__law_one) = true)
    {f__law_mix : Addr} {od__law_mix an__law_mix : Option Addr} {sl__law_mix : Array (Option Value)} {oc__law_mix kV__law_mix dc__law_mix pm__law_mix cd__law_mix ct__law_mix : Value}
    (x1__law_mix : PySem.W.nsIn K mainGlobals "_law_mix" = some (some (.ref f__law_mix)))
    (x2__law_mix : K.lookup f__law_mix = some ⟨oc__law_mix, od__law_mix, .func (PySem.W.fnOf "_law_mix" "_law_mix" (defArgs s__law_mix) (defBody s__law_mix) (defScope s__law_mix) .none kV__law_mix dc__law_mix pm__law_mix an__law_mix cd__law_mix ct__law_mix), sl__law_mix⟩)
    (x3__law_mix : PySem.W.codeIn K cd__law_mix "_law_mix" = true) (x4__law_mix : PySem.W.keepIn K (.ref f__law_mix) = true)
    {f__law_some : Addr} {od__law_some an__law_some : Option Addr} {sl__law_some : Array (Option Value)} {oc__law_some kV__law_some dc__law_some pm__law_some cd__law_some ct__law_some : Value}
    (x1__law_some : PySem.W.nsIn K mainGlobals "_law_some" = some (some (.ref f__law_some)))
    (x2__law_some : K.lookup f__law_some = some ⟨oc__law_some, od__law_some, .func (PySem.W.fnOf "_law_some" "_law_some" (defArgs s__law_some) (defBody s__law_some) (defScope s__law_some) .none kV__law_some dc__law_some pm__law_some an__law_some cd__law_some ct__law_some), sl__law_some⟩)
    (x3__law_some : PySem.W.codeIn K cd__law_some "_law_some" = true) (x4__law_some : PySem.W.keepIn K (.ref f__law_some) = true)
    {f__law_same : Addr} {od__law_same an__law_same : Option Addr} {sl__law_same : Array (Option Value)} {oc__law_same kV__law_same dc__law_same pm__law_same cd__law_same ct__law_same : Value}
    (x1__law_same : PySem.W.nsIn K mainGlobals "_law_same" = some (some (.ref f__law_same)))
    (x2__law_same : K.lookup f__law_same = some ⟨oc__law_same, od__law_same, .func (PySem.W.fnOf "_law_same" "_law_same" (defArgs s__law_same) (defBody s__law_same) (defScope s__law_same) .none kV__law_same dc__law_same pm__law_same an__law_same cd__law_same ct__law_same), sl__law_same⟩)
    (x3__law_same : PySem.W.codeIn K cd__law_same "_law_same" = true) (x4__law_same : PySem.W.keepIn K (.ref f__law_same) = true)
    {f__law_same_dict : Addr} {od__law_same_dict an__law_same_dict : Option Addr} {sl__law_same_dict : Array (Option Value)} {oc__law_same_dict kV__law_same_dict dc__law_same_dict pm__law_same_dict cd__law_same_dict ct__law_same_dict : Value}
    (x1__law_same_dict : PySem.W.nsIn K mainGlobals "_law_same_dict" = some (some (.ref f__law_same_dict)))
    (x2__law_same_dict : K.lookup f__law_same_dict = some ⟨oc__law_same_dict, od__law_same_dict, .func (PySem.W.fnOf "_law_same_dict" "_law_same_dict" (defArgs s__law_same_dict) (defBody s__law_same_dict) (defScope s__law_same_dict) .none kV__law_same_dict dc__law_same_dict pm__law_same_dict an__law_same_dict cd__law_same_dict ct__law_same_dict), sl__law_same_dict⟩)
    (x3__law_same_dict : PySem.W.codeIn K cd__law_same_dict "_law_same_dict" = true) (x4__law_same_dict : PySem.W.keepIn K (.ref f__law_same_dict) = true)
    {f__law_loose : Addr} {od__law_loose an__law_loose : Option Addr} {sl__law_loose : Array (Option Value)} {oc__law_loose kV__law_loose dc__law_loose pm__law_loose cd__law_loose ct__law_loose : Value}
    (x1__law_loose : PySem.W.nsIn K mainGlobals "_law_loose" = some (some (.ref f__law_loose)))
    (x2__law_loose : K.lookup f__law_loose = some ⟨oc__law_loose, od__law_loose, .func (PySem.W.fnOf "_law_loose" "_law_loose" (defArgs s__law_loose) (defBody s__law_loose) (defScope s__law_loose) .none kV__law_loose dc__law_loose pm__law_loose an__law_loose cd__law_loose ct__law_loose), sl__law_loose⟩)
    (x3__law_loose : PySem.W.codeIn K cd__law_loose "_law_loose" = true) (x4__law_loose : PySem.W.keepIn K (.ref f__law_loose) = true)
    {f__law_names : Addr} {od__law_names an__law_names : Option Addr} {sl__law_names : Array (Option Value)} {oc__law_names kV__law_names dc__law_names pm__law_names cd__law_names ct__law_names : Value}
    (x1__law_names : PySem.W.nsIn K mainGlobals "_law_names" = some (some (.ref f__law_names)))
    (x2__law_names : K.lookup f__law_names = some ⟨oc__law_names, od__law_names, .func (PySem.W.fnOf "_law_names" "_law_names" (defArgs s__law_names) (defBody s__law_names) (defScope s__law_names) .none kV__law_names dc__law_names pm__law_names an__law_names cd__law_names ct__law_names), sl__law_names⟩)
    (x3__law_names : PySem.W.codeIn K cd__law_names "_law_names" = true) (x4__law_names : PySem.W.keepIn K (.ref f__law_names) = true)
    {f__law_rising : Addr} {od__law_rising an__law_rising : Option Addr} {sl__law_rising : Array (Option Value)} {oc__law_rising kV__law_rising dc__law_rising pm__law_rising cd__law_rising ct__law_rising : Value}
    (x1__law_rising : PySem.W.nsIn K mainGlobals "_law_rising" = some (some (.ref f__law_rising)))
    (x2__law_rising : K.lookup f__law_rising = some ⟨oc__law_rising, od__law_rising, .func (PySem.W.fnOf "_law_rising" "_law_rising" (defArgs s__law_rising) (defBody s__law_rising) (defScope s__law_rising) .none kV__law_rising dc__law_rising pm__law_rising an__law_rising cd__law_rising ct__law_rising), sl__law_rising⟩)
    (x3__law_rising : PySem.W.codeIn K cd__law_rising "_law_rising" = true) (x4__law_rising : PySem.W.keepIn K (.ref f__law_rising) = true)
    {f__law_hung : Addr} {od__law_hung an__law_hung : Option Addr} {sl__law_hung : Array (Option Value)} {oc__law_hung kV__law_hung dc__law_hung pm__law_hung cd__law_hung ct__law_hung : Value}
    (x1__law_hung : PySem.W.nsIn K mainGlobals "_law_hung" = some (some (.ref f__law_hung)))
    (x2__law_hung : K.lookup f__law_hung = some ⟨oc__law_hung, od__law_hung, .func (PySem.W.fnOf "_law_hung" "_law_hung" (defArgs s__law_hung) (defBody s__law_hung) (defScope s__law_hung) .none kV__law_hung dc__law_hung pm__law_hung an__law_hung cd__law_hung ct__law_hung), sl__law_hung⟩)
    (x3__law_hung : PySem.W.codeIn K cd__law_hung "_law_hung" = true) (x4__law_hung : PySem.W.keepIn K (.ref f__law_hung) = true)
    {f__law_waiting : Addr} {od__law_waiting an__law_waiting : Option Addr} {sl__law_waiting : Array (Option Value)} {oc__law_waiting kV__law_waiting dc__law_waiting pm__law_waiting cd__law_waiting ct__law_waiting : Value}
    (x1__law_waiting : PySem.W.nsIn K mainGlobals "_law_waiting" = some (some (.ref f__law_waiting)))
    (x2__law_waiting : K.lookup f__law_waiting = some ⟨oc__law_waiting, od__law_waiting, .func (PySem.W.fnOf "_law_waiting" "_law_waiting" (defArgs s__law_waiting) (defBody s__law_waiting) (defScope s__law_waiting) .none kV__law_waiting dc__law_waiting pm__law_waiting an__law_waiting cd__law_waiting ct__law_waiting), sl__law_waiting⟩)
    (x3__law_waiting : PySem.W.codeIn K cd__law_waiting "_law_waiting" = true) (x4__law_waiting : PySem.W.keepIn K (.ref f__law_waiting) = true)
    {f__law_with : Addr} {od__law_with an__law_with : Option Addr} {sl__law_with : Array (Option Value)} {oc__law_with kV__law_with dc__law_with pm__law_with cd__law_with ct__law_with : Value}
    (x1__law_with : PySem.W.nsIn K mainGlobals "_law_with" = some (some (.ref f__law_with)))
    (x2__law_with : K.lookup f__law_with = some ⟨oc__law_with, od__law_with, .func (PySem.W.fnOf "_law_with" "_law_with" (defArgs s__law_with) (defBody s__law_with) (defScope s__law_with) .none kV__law_with dc__law_with pm__law_with an__law_with cd__law_with ct__law_with), sl__law_with⟩)
    (x3__law_with : PySem.W.codeIn K cd__law_with "_law_with" = true) (x4__law_with : PySem.W.keepIn K (.ref f__law_with) = true)
    {f__law_bend : Addr} {od__law_bend an__law_bend : Option Addr} {sl__law_bend : Array (Option Value)} {oc__law_bend kV__law_bend dc__law_bend pm__law_bend cd__law_bend ct__law_bend : Value}
    (x1__law_bend : PySem.W.nsIn K mainGlobals "_law_bend" = some (some (.ref f__law_bend)))
    (x2__law_bend : K.lookup f__law_bend = some ⟨oc__law_bend, od__law_bend, .func (PySem.W.fnOf "_law_bend" "_law_bend" (defArgs s__law_bend) (defBody s__law_bend) (defScope s__law_bend) .none kV__law_bend dc__law_bend pm__law_bend an__law_bend cd__law_bend ct__law_bend), sl__law_bend⟩)
    (x3__law_bend : PySem.W.codeIn K cd__law_bend "_law_bend" = true) (x4__law_bend : PySem.W.keepIn K (.ref f__law_bend) = true)
    {f__law_sum : Addr} {od__law_sum an__law_sum : Option Addr} {sl__law_sum : Array (Option Value)} {oc__law_sum kV__law_sum dc__law_sum pm__law_sum cd__law_sum ct__law_sum : Value}
    (x1__law_sum : PySem.W.nsIn K mainGlobals "_law_sum" = some (some (.ref f__law_sum)))
    (x2__law_sum : K.lookup f__law_sum = some ⟨oc__law_sum, od__law_sum, .func (PySem.W.fnOf "_law_sum" "_law_sum" (defArgs s__law_sum) (defBody s__law_sum) (defScope s__law_sum) .none kV__law_sum dc__law_sum pm__law_sum an__law_sum cd__law_sum ct__law_sum), sl__law_sum⟩)
    (x3__law_sum : PySem.W.codeIn K cd__law_sum "_law_sum" = true) (x4__law_sum : PySem.W.keepIn K (.ref f__law_sum) = true)
    {f__law_tried : Addr} {od__law_tried an__law_tried : Option Addr} {sl__law_tried : Array (Option Value)} {oc__law_tried kV__law_tried dc__law_tried pm__law_tried cd__law_tried ct__law_tried : Value}
    (x1__law_tried : PySem.W.nsIn K mainGlobals "_law_tried" = some (some (.ref f__law_tried)))
    (x2__law_tried : K.lookup f__law_tried = some ⟨oc__law_tried, od__law_tried, .func (PySem.W.fnOf "_law_tried" "_law_tried" (defArgs s__law_tried) (defBody s__law_tried) (defScope s__law_tried) .none kV__law_tried dc__law_tried pm__law_tried an__law_tried cd__law_tried ct__law_tried), sl__law_tried⟩)
    (x3__law_tried : PySem.W.codeIn K cd__law_tried "_law_tried" = true) (x4__law_tried : PySem.W.keepIn K (.ref f__law_tried) = true)
    {f__law_tells : Addr} {od__law_tells an__law_tells : Option Addr} {sl__law_tells : Array (Option Value)} {oc__law_tells kV__law_tells dc__law_tells pm__law_tells cd__law_tells ct__law_tells : Value}
    (x1__law_tells : PySem.W.nsIn K mainGlobals "_law_tells" = some (some (.ref f__law_tells)))
    (x2__law_tells : K.lookup f__law_tells = some ⟨oc__law_tells, od__law_tells, .func (PySem.W.fnOf "_law_tells" "_law_tells" (defArgs s__law_tells) (defBody s__law_tells) (defScope s__law_tells) .none kV__law_tells dc__law_tells pm__law_tells an__law_tells cd__law_tells ct__law_tells), sl__law_tells⟩)
    (x3__law_tells : PySem.W.codeIn K cd__law_tells "_law_tells" = true) (x4__law_tells : PySem.W.keepIn K (.ref f__law_tells) = true)
    {f__law_refuses : Addr} {od__law_refuses an__law_refuses : Option Addr} {sl__law_refuses : Array (Option Value)} {oc__law_refuses kV__law_refuses dc__law_refuses pm__law_refuses cd__law_refuses ct__law_refuses : Value}
    (x1__law_refuses : PySem.W.nsIn K mainGlobals "_law_refuses" = some (some (.ref f__law_refuses)))
    (x2__law_refuses : K.lookup f__law_refuses = some ⟨oc__law_refuses, od__law_refuses, .func (PySem.W.fnOf "_law_refuses" "_law_refuses" (defArgs s__law_refuses) (defBody s__law_refuses) (defScope s__law_refuses) .none kV__law_refuses dc__law_refuses pm__law_refuses an__law_refuses (.ref c0) ct__law_refuses), sl__law_refuses⟩)
    (x3__law_refuses : PySem.W.codeIn K (.ref c0) "_law_refuses" = true) (x4__law_refuses : PySem.W.keepIn K (.ref f__law_refuses) = true)
    {f_law : Addr} {od_law an_law : Option Addr} {sl_law : Array (Option Value)} {oc_law kV_law dc_law pm_law cd_law ct_law : Value}
    (x1_law : PySem.W.nsIn K mainGlobals "law" = some (some (.ref f_law)))
    (x2_law : K.lookup f_law = some ⟨oc_law, od_law, .func (PySem.W.fnOf "law" "law" (defArgs s_law) (defBody s_law) (defScope s_law) .none kV_law dc_law pm_law an_law cd_law ct_law), sl_law⟩)
    (x3_law : PySem.W.codeIn K cd_law "law" = true) (x4_law : PySem.W.keepIn K (.ref f_law) = true)
    {t_CLOCK : Tok} (x1_CLOCK : PySem.W.nsIn K mainGlobals "CLOCK" = some (some (.str "clock" t_CLOCK)))
    {t_LETTERS : Tok} (x1_LETTERS : PySem.W.nsIn K mainGlobals "LETTERS" = some (some (.str "abcdefghijklmnopqrstuvwxyz" t_LETTERS)))
    {t_LONGEST_NAME : Tok} (x1_LONGEST_NAME : PySem.W.nsIn K mainGlobals "LONGEST_NAME" = some (some (.int 8 t_LONGEST_NAME)))
    (x1_len : PySem.W.nsIn K mainGlobals "len" = some none)
    (x1_abs : PySem.W.nsIn K mainGlobals "abs" = some none)
    (x1_int : PySem.W.nsIn K mainGlobals "int" = some none)
    (x1_list : PySem.W.nsIn K mainGlobals "list" = some none)
    (x1_tuple : PySem.W.nsIn K mainGlobals "tuple" = some none)
    (x1_bool : PySem.W.nsIn K mainGlobals "bool" = some none)
    (x1_str : PySem.W.nsIn K mainGlobals "str" = some none)
    (x1_dict : PySem.W.nsIn K mainGlobals "dict" = some none)
    (x1_isinstance : PySem.W.nsIn K mainGlobals "isinstance" = some none)
    (x1_all : PySem.W.nsIn K mainGlobals "all" = some none)
    (x1_any : PySem.W.nsIn K mainGlobals "any" = some none)
    (x1_zip : PySem.W.nsIn K mainGlobals "zip" = some none)
    (x1_enumerate : PySem.W.nsIn K mainGlobals "enumerate" = some none)
    (x1_range : PySem.W.nsIn K mainGlobals "range" = some none)
    (x1_sorted : PySem.W.nsIn K mainGlobals "sorted" = some none)
    (x1_sum : PySem.W.nsIn K mainGlobals "sum" = some none)
    (x1_iter : PySem.W.nsIn K mainGlobals "iter" = some none)
    (u1 : PySem.W.findIn K (.ref c_Hanging) "__class__" = some (some (.builtin "object.__class__")))
    (u2 : PySem.W.specialIn K (.builtin "object.__class__") "__get__" = some (some (.builtin "getset_descriptor.__get__")))
    (u3 : PySem.W.takesIn K (.builtin "object.__class__") = some true)
    (u4 : PySem.W.findIn K (.ref c_Book) "__class__" = some (some (.builtin "object.__class__")))
    (u5 : PySem.W.notFirst K c_Hanging (.ref c_Hanging) = true)
    (u6 : PySem.W.notFirst K c_Book (.ref c_Book) = true)
    (u7 : PySem.W.kitOne K (.ref c_Hanging) (.ref c_Hanging) = some true)
    (u8 : PySem.W.kitOne K (.ref c_Book) (.ref c_Book) = some true)
    (u9 : PySem.W.findIn K (.ref c_Book) "__ne__" = some (some (.builtin "object.__ne__")))
    (u10 : PySem.W.mroIn K c_Hanging (.type "object") = some true)
    (u11 : PySem.W.mroIn K c_Book (.type "object") = some true)
    (u12 : PySem.W.typeIn K (.ref c_Book) = some (.type "type"))
    (u13 : PySem.W.readsIn K c_Book (.type "type") = true)
    (u14 : PySem.W.specialIn K (.ref c_Book) "__getattribute__" = some (some (.builtin "type.__getattribute__")))
    (u15 : PySem.W.findIn K (.ref c_Book) "__len__" = some none)
    (u16 : PySem.W.findIn K (.ref c_Book) "__length_hint__" = some none)
    (u17 : PySem.W.fnIn K f_Book___getitem__ = true)
    (u18 : PySem.W.notFirst K c_Book (.type "NoneType") = true)
    (u19 : PySem.W.notFirst K c_Book (.type "dict") = true)
    (u20 : PySem.W.kitOne K (.type "NoneType") (.ref c_Book) = some false)
    (u21 : PySem.W.kitOne K (.type "dict") (.ref c_Book) = some false)
    (u22 : PySem.W.subIn K (.ref c_Book) (.type "NoneType") = some false)
    (u23 : PySem.W.subIn K (.ref c_Book) (.type "dict") = some false)
    (u24 : PySem.W.typeIn K (.ref f_NoDish___init__) = some (.type "function"))
    (u25 : PySem.W.exmOne K (.ref c_NoDish) (.ref c_NoDish) = some true)
    : ∃ fd : FuncData, (∀ (s : Shared) (v : Value), BindsTo s fd ⟨[v], []⟩ [("_law_script", v)]) ∧ ∀ base : Heap, K.In base → base.Ns mainGlobals mg → LamX.TabB base mg c0 Pt → FnOk l.prog w K mg base CX0 14 fa fd ["_law_script"] (spLawT K Pt) := by
  have e := hfa.symm.trans (PySem.W.mg_of X G x1_law)
  cases e
  have F_is_integer := fun_mk (st := s_is_integer) x2_is_integer x3_is_integer x4_is_integer
  have F_is_list := fun_mk (st := s_is_list) x2_is_list x3_is_list x4_is_list
  have F_is_name := fun_mk (st := s_is_name) x2_is_name x3_is_name x4_is_name
  have F_is_dish := fun_mk (st := s_is_dish) x2_is_dish x3_is_dish x4_is_dish
  have F_alike := fun_mk (st := s_alike) x2_alike x3_alike x4_alike
  have F_copied := fun_mk (st := s_copied) x2_copied x3_copied x4_copied
  have F_NoDish___init__ := fun_mk (st := s_NoDish___init__) x2_NoDish___init__ x3_NoDish___init__ x4_NoDish___init__
  have F_check_dish := fun_mk (st := s_check_dish) x2_check_dish x3_check_dish x4_check_dish
  have F_way_up := fun_mk (st := s_way_up) x2_way_up x3_way_up x4_way_up
  have F_Hanging___init__ := fun_mk (st := s_Hanging___init__) x2_Hanging___init__ x3_Hanging___init__ x4_Hanging___init__
  have F_Hanging_rows := fun_mk (st := s_Hanging_rows) x2_Hanging_rows x3_Hanging_rows x4_Hanging_rows
  have F_Hanging___eq__ := fun_mk (st := s_Hanging___eq__) x2_Hanging___eq__ x3_Hanging___eq__ x4_Hanging___eq__
  have F_check_rows := fun_mk (st := s_check_rows) x2_check_rows x3_check_rows x4_check_rows
  have F_is_hook := fun_mk (st := s_is_hook) x2_is_hook x3_is_hook x4_is_hook
  have F_check_rounds := fun_mk (st := s_check_rounds) x2_check_rounds x3_check_rounds x4_check_rounds
  have F_round_from := fun_mk (st := s_round_from) x2_round_from x3_round_from x4_round_from
  have F_Book___init__ := fun_mk (st := s_Book___init__) x2_Book___init__ x3_Book___init__ x4_Book___init__
  have F_Book_of := fun_mk (st := s_Book_of) x2_Book_of x3_Book_of x4_Book_of
  have F_Book_rows := fun_mk (st := s_Book_rows) x2_Book_rows x3_Book_rows x4_Book_rows
  have F_Book_hanging := fun_mk (st := s_Book_hanging) x2_Book_hanging x3_Book_hanging x4_Book_hanging
  have F_Book_wait := fun_mk (st := s_Book_wait) x2_Book_wait x3_Book_wait x4_Book_wait
  have F_Book_added := fun_mk (st := s_Book_added) x2_Book_added x3_Book_added x4_Book_added
  have F_Book___getitem__ := fun_mk (st := s_Book___getitem__) x2_Book___getitem__ x3_Book___getitem__ x4_Book___getitem__
  have F_Book___iter__ := fun_mk (st := s_Book___iter__) x2_Book___iter__ x3_Book___iter__ x4_Book___iter__
  have F_Book___eq__ := fun_mk (st := s_Book___eq__) x2_Book___eq__ x3_Book___eq__ x4_Book___eq__
  have F_check_entries := fun_mk (st := s_check_entries) x2_check_entries x3_check_entries x4_check_entries
  have F_is_entry := fun_mk (st := s_is_entry) x2_is_entry x3_is_entry x4_is_entry
  have F_is_wait := fun_mk (st := s_is_wait) x2_is_wait x3_is_wait x4_is_wait
  have F_check_waits := fun_mk (st := s_check_waits) x2_check_waits x3_check_waits x4_check_waits
  have F_sum_ahead := fun_mk (st := s_sum_ahead) x2_sum_ahead x3_sum_ahead x4_sum_ahead
  have F__law_fresh := fun_mk (st := s__law_fresh) x2__law_fresh x3__law_fresh x4__law_fresh
  have F__law_take := fun_mk (st := s__law_take) x2__law_take x3__law_take x4__law_take
  have F__law_one := fun_mk (st := s__law_one) x2__law_one x3__law_one x4__law_one
  have F__law_mix := fun_mk (st := s__law_mix) x2__law_mix x3__law_mix x4__law_mix
  have F__law_some := fun_mk (st := s__law_some) x2__law_some x3__law_some x4__law_some
  have F__law_same := fun_mk (st := s__law_same) x2__law_same x3__law_same x4__law_same
  have F__law_same_dict := fun_mk (st := s__law_same_dict) x2__law_same_dict x3__law_same_dict x4__law_same_dict
  have F__law_loose := fun_mk (st := s__law_loose) x2__law_loose x3__law_loose x4__law_loose
  have F__law_names := fun_mk (st := s__law_names) x2__law_names x3__law_names x4__law_names
  have F__law_rising := fun_mk (st := s__law_rising) x2__law_rising x3__law_rising x4__law_rising
  have F__law_hung := fun_mk (st := s__law_hung) x2__law_hung x3__law_hung x4__law_hung
  have F__law_waiting := fun_mk (st := s__law_waiting) x2__law_waiting x3__law_waiting x4__law_waiting
  have F__law_with := fun_mk (st := s__law_with) x2__law_with x3__law_with x4__law_with
  have F__law_bend := fun_mk (st := s__law_bend) x2__law_bend x3__law_bend x4__law_bend
  have F__law_sum := fun_mk (st := s__law_sum) x2__law_sum x3__law_sum x4__law_sum
  have F__law_tried := fun_mk (st := s__law_tried) x2__law_tried x3__law_tried x4__law_tried
  have F__law_tells := fun_mk (st := s__law_tells) x2__law_tells x3__law_tells x4__law_tells
  have F__law_refuses := fun_mk (st := s__law_refuses) x2__law_refuses x3__law_refuses x4__law_refuses
  have F_law := fun_mk (st := s_law) x2_law x3_law x4_law
  have T : Txt K mg ({ a_is_integer := f_is_integer, d_is_integer := (PySem.W.fnOf "is_integer" "is_integer" (defArgs s_is_integer) (defBody s_is_integer) (defScope s_is_integer) .none kV_is_integer dc_is_integer pm_is_integer an_is_integer cd_is_integer ct_is_integer), a_is_list := f_is_list, d_is_list := (PySem.W.fnOf "is_list" "is_list" (defArgs s_is_list) (defBody s_is_list) (defScope s_is_list) .none kV_is_list dc_is_list pm_is_list an_is_list cd_is_list ct_is_list), a_is_name := f_is_name, d_is_name := (PySem.W.fnOf "is_name" "is_name" (defArgs s_is_name) (defBody s_is_name) (defScope s_is_name) .none kV_is_name dc_is_name pm_is_name an_is_name cd_is_name ct_is_name), a_is_dish := f_is_dish, d_is_dish := (PySem.W.fnOf "is_dish" "is_dish" (defArgs s_is_dish) (defBody s_is_dish) (defScope s_is_dish) .none kV_is_dish dc_is_dish pm_is_dish an_is_dish cd_is_dish ct_is_dish), a_alike := f_alike, d_alike := (PySem.W.fnOf "alike" "alike" (defArgs s_alike) (defBody s_alike) (defScope s_alike) .none kV_alike dc_alike pm_alike an_alike cd_alike ct_alike), a_copied := f_copied, d_copied := (PySem.W.fnOf "copied" "copied" (defArgs s_copied) (defBody s_copied) (defScope s_copied) .none kV_copied dc_copied pm_copied an_copied cd_copied ct_copied), a_NoDish___init__ := f_NoDish___init__, d_NoDish___init__ := (PySem.W.fnOf "__init__" "NoDish.__init__" (defArgs s_NoDish___init__) (defBody s_NoDish___init__) (defScope s_NoDish___init__) .none kV_NoDish___init__ dc_NoDish___init__ pm_NoDish___init__ an_NoDish___init__ cd_NoDish___init__ ct_NoDish___init__), a_check_dish := f_check_dish, d_check_dish := (PySem.W.fnOf "check_dish" "check_dish" (defArgs s_check_dish) (defBody s_check_dish) (defScope s_check_dish) .none kV_check_dish dc_check_dish pm_check_dish an_check_dish cd_check_dish ct_check_dish), a_way_up := f_way_up, d_way_up := (PySem.W.fnOf "way_up" "way_up" (defArgs s_way_up) (defBody s_way_up) (defScope s_way_up) .none kV_way_up dc_way_up pm_way_up an_way_up cd_way_up ct_way_up), a_Hanging___init__ := f_Hanging___init__, d_Hanging___init__ := (PySem.W.fnOf "__init__" "Hanging.__init__" (defArgs s_Hanging___init__) (defBody s_Hanging___init__) (defScope s_Hanging___init__) .none kV_Hanging___init__ dc_Hanging___init__ pm_Hanging___init__ an_Hanging___init__ cd_Hanging___init__ ct_Hanging___init__), a_Hanging_rows := f_Hanging_rows, d_Hanging_rows := (PySem.W.fnOf "rows" "Hanging.rows" (defArgs s_Hanging_rows) (defBody s_Hanging_rows) (defScope s_Hanging_rows) .none kV_Hanging_rows dc_Hanging_rows pm_Hanging_rows an_Hanging_rows cd_Hanging_rows ct_Hanging_rows), a_Hanging___eq__ := f_Hanging___eq__, d_Hanging___eq__ := (PySem.W.fnOf "__eq__" "Hanging.__eq__" (defArgs s_Hanging___eq__) (defBody s_Hanging___eq__) (defScope s_Hanging___eq__) .none kV_Hanging___eq__ dc_Hanging___eq__ pm_Hanging___eq__ an_Hanging___eq__ cd_Hanging___eq__ ct_Hanging___eq__), a_check_rows := f_check_rows, d_check_rows := (PySem.W.fnOf "check_rows" "check_rows" (defArgs s_check_rows) (defBody s_check_rows) (defScope s_check_rows) .none kV_check_rows dc_check_rows pm_check_rows an_check_rows cd_check_rows ct_check_rows), a_is_hook := f_is_hook, d_is_hook := (PySem.W.fnOf "is_hook" "is_hook" (defArgs s_is_hook) (defBody s_is_hook) (defScope s_is_hook) .none kV_is_hook dc_is_hook pm_is_hook an_is_hook cd_is_hook ct_is_hook), a_check_rounds := f_check_rounds, d_check_rounds := (PySem.W.fnOf "check_rounds" "check_rounds" (defArgs s_check_rounds) (defBody s_check_rounds) (defScope s_check_rounds) .none kV_check_rounds dc_check_rounds pm_check_rounds an_check_rounds cd_check_rounds ct_check_rounds), a_round_from := f_round_from, d_round_from := (PySem.W.fnOf "round_from" "round_from" (defArgs s_round_from) (defBody s_round_from) (defScope s_round_from) .none kV_round_from dc_round_from pm_round_from an_round_from cd_round_from ct_round_from), a_Book___init__ := f_Book___init__, d_Book___init__ := (PySem.W.fnOf "__init__" "Book.__init__" (defArgs s_Book___init__) (defBody s_Book___init__) (defScope s_Book___init__) .none kV_Book___init__ dc_Book___init__ pm_Book___init__ an_Book___init__ cd_Book___init__ ct_Book___init__), a_Book_of := f_Book_of, d_Book_of := (PySem.W.fnOf "of" "Book.of" (defArgs s_Book_of) (defBody s_Book_of) (defScope s_Book_of) .none kV_Book_of dc_Book_of pm_Book_of an_Book_of cd_Book_of ct_Book_of), a_Book_rows := f_Book_rows, d_Book_rows := (PySem.W.fnOf "rows" "Book.rows" (defArgs s_Book_rows) (defBody s_Book_rows) (defScope s_Book_rows) .none kV_Book_rows dc_Book_rows pm_Book_rows an_Book_rows cd_Book_rows ct_Book_rows), a_Book_hanging := f_Book_hanging, d_Book_hanging := (PySem.W.fnOf "hanging" "Book.hanging" (defArgs s_Book_hanging) (defBody s_Book_hanging) (defScope s_Book_hanging) .none kV_Book_hanging dc_Book_hanging pm_Book_hanging an_Book_hanging cd_Book_hanging ct_Book_hanging), a_Book_wait := f_Book_wait, d_Book_wait := (PySem.W.fnOf "wait" "Book.wait" (defArgs s_Book_wait) (defBody s_Book_wait) (defScope s_Book_wait) .none kV_Book_wait dc_Book_wait pm_Book_wait an_Book_wait cd_Book_wait ct_Book_wait), a_Book_added := f_Book_added, d_Book_added := (PySem.W.fnOf "added" "Book.added" (defArgs s_Book_added) (defBody s_Book_added) (defScope s_Book_added) .none kV_Book_added dc_Book_added pm_Book_added an_Book_added cd_Book_added ct_Book_added), a_Book___getitem__ := f_Book___getitem__, d_Book___getitem__ := (PySem.W.fnOf "__getitem__" "Book.__getitem__" (defArgs s_Book___getitem__) (defBody s_Book___getitem__) (defScope s_Book___getitem__) .none kV_Book___getitem__ dc_Book___getitem__ pm_Book___getitem__ an_Book___getitem__ cd_Book___getitem__ ct_Book___getitem__), a_Book___iter__ := f_Book___iter__, d_Book___iter__ := (PySem.W.fnOf "__iter__" "Book.__iter__" (defArgs s_Book___iter__) (defBody s_Book___iter__) (defScope s_Book___iter__) .none kV_Book___iter__ dc_Book___iter__ pm_Book___iter__ an_Book___iter__ cd_Book___iter__ ct_Book___iter__), a_Book___eq__ := f_Book___eq__, d_Book___eq__ := (PySem.W.fnOf "__eq__" "Book.__eq__" (defArgs s_Book___eq__) (defBody s_Book___eq__) (defScope s_Book___eq__) .none kV_Book___eq__ dc_Book___eq__ pm_Book___eq__ an_Book___eq__ cd_Book___eq__ ct_Book___eq__), a_check_entries := f_check_entries, d_check_entries := (PySem.W.fnOf "check_entries" "check_entries" (defArgs s_check_entries) (defBody s_check_entries) (defScope s_check_entries) .none kV_check_entries dc_check_entries pm_check_entries an_check_entries cd_check_entries ct_check_entries), a_is_entry := f_is_entry, d_is_entry := (PySem.W.fnOf "is_entry" "is_entry" (defArgs s_is_entry) (defBody s_is_entry) (defScope s_is_entry) .none kV_is_entry dc_is_entry pm_is_entry an_is_entry cd_is_entry ct_is_entry), a_is_wait := f_is_wait, d_is_wait := (PySem.W.fnOf "is_wait" "is_wait" (defArgs s_is_wait) (defBody s_is_wait) (defScope s_is_wait) .none kV_is_wait dc_is_wait pm_is_wait an_is_wait cd_is_wait ct_is_wait), a_check_waits := f_check_waits, d_check_waits := (PySem.W.fnOf "check_waits" "check_waits" (defArgs s_check_waits) (defBody s_check_waits) (defScope s_check_waits) .none kV_check_waits dc_check_waits pm_check_waits an_check_waits cd_check_waits ct_check_waits), a_sum_ahead := f_sum_ahead, d_sum_ahead := (PySem.W.fnOf "sum_ahead" "sum_ahead" (defArgs s_sum_ahead) (defBody s_sum_ahead) (defScope s_sum_ahead) .none kV_sum_ahead dc_sum_ahead pm_sum_ahead an_sum_ahead cd_sum_ahead ct_sum_ahead), a__law_fresh := f__law_fresh, d__law_fresh := (PySem.W.fnOf "_law_fresh" "_law_fresh" (defArgs s__law_fresh) (defBody s__law_fresh) (defScope s__law_fresh) .none kV__law_fresh dc__law_fresh pm__law_fresh an__law_fresh cd__law_fresh ct__law_fresh), a__law_take := f__law_take, d__law_take := (PySem.W.fnOf "_law_take" "_law_take" (defArgs s__law_take) (defBody s__law_take) (defScope s__law_take) .none kV__law_take dc__law_take pm__law_take an__law_take cd__law_take ct__law_take), a__law_one := f__law_one, d__law_one := (PySem.W.fnOf "_law_one" "_law_one" (defArgs s__law_one) (defBody s__law_one) (defScope s__law_one) .none kV__law_one dc__law_one pm__law_one an__law_one cd__law_one ct__law_one), a__law_mix := f__law_mix, d__law_mix := (PySem.W.fnOf "_law_mix" "_law_mix" (defArgs s__law_mix) (defBody s__law_mix) (defScope s__law_mix) .none kV__law_mix dc__law_mix pm__law_mix an__law_mix cd__law_mix ct__law_mix), a__law_some := f__law_some, d__law_some := (PySem.W.fnOf "_law_some" "_law_some" (defArgs s__law_some) (defBody s__law_some) (defScope s__law_some) .none kV__law_some dc__law_some pm__law_some an__law_some cd__law_some ct__law_some), a__law_same := f__law_same, d__law_same := (PySem.W.fnOf "_law_same" "_law_same" (defArgs s__law_same) (defBody s__law_same) (defScope s__law_same) .none kV__law_same dc__law_same pm__law_same an__law_same cd__law_same ct__law_same), a__law_same_dict := f__law_same_dict, d__law_same_dict := (PySem.W.fnOf "_law_same_dict" "_law_same_dict" (defArgs s__law_same_dict) (defBody s__law_same_dict) (defScope s__law_same_dict) .none kV__law_same_dict dc__law_same_dict pm__law_same_dict an__law_same_dict cd__law_same_dict ct__law_same_dict), a__law_loose := f__law_loose, d__law_loose := (PySem.W.fnOf "_law_loose" "_law_loose" (defArgs s__law_loose) (defBody s__law_loose) (defScope s__law_loose) .none kV__law_loose dc__law_loose pm__law_loose an__law_loose cd__law_loose ct__law_loose), a__law_names := f__law_names, d__law_names := (PySem.W.fnOf "_law_names" "_law_names" (defArgs s__law_names) (defBody s__law_names) (defScope s__law_names) .none kV__law_names dc__law_names pm__law_names an__law_names cd__law_names ct__law_names), a__law_rising := f__law_rising, d__law_rising := (PySem.W.fnOf "_law_rising" "_law_rising" (defArgs s__law_rising) (defBody s__law_rising) (defScope s__law_rising) .none kV__law_rising dc__law_rising pm__law_rising an__law_rising cd__law_rising ct__law_rising), a__law_hung := f__law_hung, d__law_hung := (PySem.W.fnOf "_law_hung" "_law_hung" (defArgs s__law_hung) (defBody s__law_hung) (defScope s__law_hung) .none kV__law_hung dc__law_hung pm__law_hung an__law_hung cd__law_hung ct__law_hung), a__law_waiting := f__law_waiting, d__law_waiting := (PySem.W.fnOf "_law_waiting" "_law_waiting" (defArgs s__law_waiting) (defBody s__law_waiting) (defScope s__law_waiting) .none kV__law_waiting dc__law_waiting pm__law_waiting an__law_waiting cd__law_waiting ct__law_waiting), a__law_with := f__law_with, d__law_with := (PySem.W.fnOf "_law_with" "_law_with" (defArgs s__law_with) (defBody s__law_with) (defScope s__law_with) .none kV__law_with dc__law_with pm__law_with an__law_with cd__law_with ct__law_with), a__law_bend := f__law_bend, d__law_bend := (PySem.W.fnOf "_law_bend" "_law_bend" (defArgs s__law_bend) (defBody s__law_bend) (defScope s__law_bend) .none kV__law_bend dc__law_bend pm__law_bend an__law_bend cd__law_bend ct__law_bend), a__law_sum := f__law_sum, d__law_sum := (PySem.W.fnOf "_law_sum" "_law_sum" (defArgs s__law_sum) (defBody s__law_sum) (defScope s__law_sum) .none kV__law_sum dc__law_sum pm__law_sum an__law_sum cd__law_sum ct__law_sum), a__law_tried := f__law_tried, d__law_tried := (PySem.W.fnOf "_law_tried" "_law_tried" (defArgs s__law_tried) (defBody s__law_tried) (defScope s__law_tried) .none kV__law_tried dc__law_tried pm__law_tried an__law_tried cd__law_tried ct__law_tried), a__law_tells := f__law_tells, d__law_tells := (PySem.W.fnOf "_law_tells" "_law_tells" (defArgs s__law_tells) (defBody s__law_tells) (defScope s__law_tells) .none kV__law_tells dc__law_tells pm__law_tells an__law_tells cd__law_tells ct__law_tells), a__law_refuses := f__law_refuses, d__law_refuses := (PySem.W.fnOf "_law_refuses" "_law_refuses" (defArgs s__law_refuses) (defBody s__law_refuses) (defScope s__law_refuses) .none kV__law_refuses dc__law_refuses pm__law_refuses an__law_refuses (.ref c0) ct__law_refuses), a_law := fa, d_law := (PySem.W.fnOf "law" "law" (defArgs s_law) (defBody s_law) (defScope s_law) .none kV_law dc_law pm_law an_law cd_law ct_law), a_Hanging := c_Hanging, a_Book := c_Book, a_NoDish := c_NoDish } : Ad) := {
    f_is_integer := F_is_integer
    g_is_integer := PySem.W.mg_of X G x1_is_integer
    b_is_integer := F_is_integer.binds fun _ _ _ _ _ _ us hl => match us, hl with | [_], _ => rfl
    f_is_list := F_is_list
    g_is_list := PySem.W.mg_of X G x1_is_list
    b_is_list := F_is_list.binds fun _ _ _ _ _ _ us hl => match us, hl with | [_], _ => rfl
    f_is_name := F_is_name
    g_is_name := PySem.W.mg_of X G x1_is_name
    b_is_name := F_is_name.binds fun _ _ _ _ _ _ us hl => match us, hl with | [_], _ => rfl
    f_is_dish := F_is_dish
    g_is_dish := PySem.W.mg_of X G x1_is_dish
    b_is_dish := F_is_dish.binds fun _ _ _ _ _ _ us hl => match us, hl with | [_, _], _ => rfl
    f_alike := F_alike
    g_alike := PySem.W.mg_of X G x1_alike
    b_alike := F_alike.binds fun _ _ _ _ _ _ us hl => match us, hl with | [_, _], _ => rfl
    f_copied := F_copied
    g_copied := PySem.W.mg_of X G x1_copied
    b_copied := F_copied.binds fun _ _ _ _ _ _ us hl => match us, hl with | [_], _ => rfl
    f_NoDish___init__ := F_NoDish___init__
    b_NoDish___init__ := F_NoDish___init__.binds fun _ _ _ _ _ _ us hl => match us, hl with | [_, _], _ => rfl
    f_check_dish := F_check_dish
    g_check_dish := PySem.W.mg_of X G x1_check_dish
    b_check_dish := F_check_dish.binds fun _ _ _ _ _ _ us hl => match us, hl with | [_, _], _ => rfl
    f_way_up := F_way_up
    g_way_up := PySem.W.mg_of X G x1_way_up
    b_way_up := F_way_up.binds fun _ _ _ _ _ _ us hl => match us, hl with | [_, _], _ => rfl
    f_Hanging___init__ := F_Hanging___init__
    b_Hanging___init__ := F_Hanging___init__.binds fun _ _ _ _ _ _ us hl => match us, hl with | [_, _], _ => rfl
    f_Hanging_rows := F_Hanging_rows
    b_Hanging_rows := F_Hanging_rows.binds fun _ _ _ _ _ _ us hl => match us, hl with | [_], _ => rfl
    f_Hanging___eq__ := F_Hanging___eq__
    b_Hanging___eq__ := F_Hanging___eq__.binds fun _ _ _ _ _ _ us hl => match us, hl with | [_, _], _ => rfl
    f_check_rows := F_check_rows
    g_check_rows := PySem.W.mg_of X G x1_check_rows
    b_check_rows := F_check_rows.binds fun _ _ _ _ _ _ us hl => match us, hl with | [_], _ => rfl
    f_is_hook := F_is_hook
    g_is_hook := PySem.W.mg_of X G x1_is_hook
    b_is_hook := F_is_hook.binds fun _ _ _ _ _ _ us hl => match us, hl with | [_, _], _ => rfl
    f_check_rounds := F_check_rounds
    g_check_rounds := PySem.W.mg_of X G x1_check_rounds
    b_check_rounds := F_check_rounds.binds fun _ _ _ _ _ _ us hl => match us, hl with | [_], _ => rfl
    f_round_from := F_round_from
    g_round_from := PySem.W.mg_of X G x1_round_from
    b_round_from := F_round_from.binds fun _ _ _ _ _ _ us hl => match us, hl with | [_, _], _ => rfl
    f_Book___init__ := F_Book___init__
    b_Book___init__ := F_Book___init__.binds fun _ _ _ _ _ _ us hl => match us, hl with | [_, _], _ => rfl
    f_Book_of := F_Book_of
    b_Book_of := F_Book_of.binds fun _ _ _ _ _ _ us hl => match us, hl with | [_, _], _ => rfl
    f_Book_rows := F_Book_rows
    b_Book_rows := F_Book_rows.binds fun _ _ _ _ _ _ us hl => match us, hl with | [_], _ => rfl
    f_Book_hanging := F_Book_hanging
    b_Book_hanging := F_Book_hanging.binds fun _ _ _ _ _ _ us hl => match us, hl with | [_], _ => rfl
    f_Book_wait := F_Book_wait
    b_Book_wait := F_Book_wait.binds fun _ _ _ _ _ _ us hl => match us, hl with | [_, _], _ => rfl
    f_Book_added := F_Book_added
    b_Book_added := F_Book_added.binds fun _ _ _ _ _ _ us hl => match us, hl with | [_, _], _ => rfl
    f_Book___getitem__ := F_Book___getitem__
    b_Book___getitem__ := F_Book___getitem__.binds fun _ _ _ _ _ _ us hl => match us, hl with | [_, _], _ => rfl
    f_Book___iter__ := F_Book___iter__
    b_Book___iter__ := F_Book___iter__.binds fun _ _ _ _ _ _ us hl => match us, hl with | [_], _ => rfl
    f_Book___eq__ := F_Book___eq__
    b_Book___eq__ := F_Book___eq__.binds fun _ _ _ _ _ _ us hl => match us, hl with | [_, _], _ => rfl
    f_check_entries := F_check_entries
    g_check_entries := PySem.W.mg_of X G x1_check_entries
    b_check_entries := F_check_entries.binds fun _ _ _ _ _ _ us hl => match us, hl with | [_], _ => rfl
    f_is_entry := F_is_entry
    g_is_entry := PySem.W.mg_of X G x1_is_entry
    b_is_entry := F_is_entry.binds fun _ _ _ _ _ _ us hl => match us, hl with | [_, _], _ => rfl
    f_is_wait := F_is_wait
    g_is_wait := PySem.W.mg_of X G x1_is_wait
    b_is_wait := F_is_wait.binds fun _ _ _ _ _ _ us hl => match us, hl with | [_], _ => rfl
    f_check_waits := F_check_waits
    g_check_waits := PySem.W.mg_of X G x1_check_waits
    b_check_waits := F_check_waits.binds fun _ _ _ _ _ _ us hl => match us, hl with | [_], _ => rfl
    f_sum_ahead := F_sum_ahead
    g_sum_ahead := PySem.W.mg_of X G x1_sum_ahead
    b_sum_ahead := F_sum_ahead.binds fun _ _ _ _ _ _ us hl => match us, hl with | [_, _], _ => rfl
    f__law_fresh := F__law_fresh
    g__law_fresh := PySem.W.mg_of X G x1__law_fresh
    b__law_fresh := F__law_fresh.binds fun _ _ _ _ _ _ us hl => match us, hl with | [_], _ => rfl
    f__law_take := F__law_take
    g__law_take := PySem.W.mg_of X G x1__law_take
    b__law_take := F__law_take.binds fun _ _ _ _ _ _ us hl => match us, hl with | [_, _], _ => rfl
    f__law_one := F__law_one
    g__law_one := PySem.W.mg_of X G x1__law_one
    b__law_one := F__law_one.binds fun _ _ _ _ _ _ us hl => match us, hl with | [_, _], _ => rfl
    f__law_mix := F__law_mix
    g__law_mix := PySem.W.mg_of X G x1__law_mix
    b__law_mix := F__law_mix.binds fun _ _ _ _ _ _ us hl => match us, hl with | [_, _], _ => rfl
    f__law_some := F__law_some
    g__law_some := PySem.W.mg_of X G x1__law_some
    b__law_some := F__law_some.binds fun _ _ _ _ _ _ us hl => match us, hl with | [_, _], _ => rfl
    f__law_same := F__law_same
    g__law_same := PySem.W.mg_of X G x1__law_same
    b__law_same := F__law_same.binds fun _ _ _ _ _ _ us hl => match us, hl with | [_, _], _ => rfl
    f__law_same_dict := F__law_same_dict
    g__law_same_dict := PySem.W.mg_of X G x1__law_same_dict
    b__law_same_dict := F__law_same_dict.binds fun _ _ _ _ _ _ us hl => match us, hl with | [_, _], _ => rfl
    f__law_loose := F__law_loose
    g__law_loose := PySem.W.mg_of X G x1__law_loose
    b__law_loose := F__law_loose.binds fun _ _ _ _ _ _ us hl => match us, hl with | [_, _], _ => rfl
    f__law_names := F__law_names
    g__law_names := PySem.W.mg_of X G x1__law_names
    b__law_names := F__law_names.binds fun _ _ _ _ _ _ us hl => match us, hl with | [_, _], _ => rfl
    f__law_rising := F__law_rising
    g__law_rising := PySem.W.mg_of X G x1__law_rising
    b__law_rising := F__law_rising.binds fun _ _ _ _ _ _ us hl => match us, hl with | [_], _ => rfl
    f__law_hung := F__law_hung
    g__law_hung := PySem.W.mg_of X G x1__law_hung
    b__law_hung := F__law_hung.binds fun _ _ _ _ _ _ us hl => match us, hl with | [_, _], _ => rfl
    f__law_waiting := F__law_waiting
    g__law_waiting := PySem.W.mg_of X G x1__law_waiting
    b__law_waiting := F__law_waiting.binds fun _ _ _ _ _ _ us hl => match us, hl with | [_, _], _ => rfl
    f__law_with := F__law_with
    g__law_with := PySem.W.mg_of X G x1__law_with
    b__law_with := F__law_with.binds fun _ _ _ _ _ _ us hl => match us, hl with | [_, _, _], _ => rfl
    f__law_bend := F__law_bend
    g__law_bend := PySem.W.mg_of X G x1__law_bend
    b__law_bend := F__law_bend.binds fun _ _ _ _ _ _ us hl => match us, hl with | [_], _ => rfl
    f__law_sum := F__law_sum
    g__law_sum := PySem.W.mg_of X G x1__law_sum
    b__law_sum := F__law_sum.binds fun _ _ _ _ _ _ us hl => match us, hl with | [_, _], _ => rfl
    f__law_tried := F__law_tried
    g__law_tried := PySem.W.mg_of X G x1__law_tried
    b__law_tried := F__law_tried.binds fun _ _ _ _ _ _ us hl => match us, hl with | [_], _ => rfl
    f__law_tells := F__law_tells
    g__law_tells := PySem.W.mg_of X G x1__law_tells
    b__law_tells := F__law_tells.binds fun _ _ _ _ _ _ us hl => match us, hl with | [_, _, _], _ => rfl
    f__law_refuses := F__law_refuses
    g__law_refuses := PySem.W.mg_of X G x1__law_refuses
    b__law_refuses := F__law_refuses.binds fun _ _ _ _ _ _ us hl => match us, hl with | [_], _ => rfl
    f_law := F_law
    g_law := PySem.W.mg_of X G x1_law
    b_law := F_law.binds fun _ _ _ _ _ _ us hl => match us, hl with | [_], _ => rfl
    g_CLOCK := ⟨_, PySem.W.mg_of X G x1_CLOCK⟩
    g_LETTERS := ⟨_, PySem.W.mg_of X G x1_LETTERS⟩
    g_LONGEST_NAME := ⟨_, PySem.W.mg_of X G x1_LONGEST_NAME⟩
    len := PySem.W.mg_none_of X G x1_len
    abs := PySem.W.mg_none_of X G x1_abs
    int := PySem.W.mg_none_of X G x1_int
    list := PySem.W.mg_none_of X G x1_list
    tuple := PySem.W.mg_none_of X G x1_tuple
    bool := PySem.W.mg_none_of X G x1_bool
    str := PySem.W.mg_none_of X G x1_str
    dict := PySem.W.mg_none_of X G x1_dict
    isinstance := PySem.W.mg_none_of X G x1_isinstance
    all := PySem.W.mg_none_of X G x1_all
    any := PySem.W.mg_none_of X G x1_any
    zip := PySem.W.mg_none_of X G x1_zip
    enumerate := PySem.W.mg_none_of X G x1_enumerate
    range := PySem.W.mg_none_of X G x1_range
    sorted := PySem.W.mg_none_of X G x1_sorted
    sum := PySem.W.mg_none_of X G x1_sum
    iter := PySem.W.mg_none_of X G x1_iter
    g_Hanging := PySem.W.mg_of X G y1_Hanging
    cl := ⟨y2_Hanging, y3_Hanging, y4_Hanging, y5_Hanging⟩
    nH := z_Hanging_hooks
    mkH := ⟨y6_Hanging, x1_Hanging___init__, x5_Hanging___init__, y7_Hanging⟩
    m_rows := ⟨x1_Hanging_rows, x5_Hanging_rows, x4_Hanging_rows⟩
    aC := u1
    aG := u2
    aT := u3
    aCB := u4
    nfH := u5
    nfB := u6
    kHH := u7
    kBB := u8
    m_eq := ⟨x1_Hanging___eq__, x5_Hanging___eq__, x4_Hanging___eq__⟩
    m_eqB := ⟨x1_Book___eq__, x5_Book___eq__, x4_Book___eq__⟩
    nEB := u9
    mO := u10
    mOB := u11
    g_Book := PySem.W.mg_of X G y1_Book
    cl_B := ⟨y2_Book, y3_Book, y4_Book, y5_Book⟩
    nBH := z_Book_hooks
    nBW := z_Book_waits
    mkB := ⟨y6_Book, x1_Book___init__, x5_Book___init__, y7_Book⟩
    m_hanging := ⟨x1_Book_hanging, x5_Book_hanging, x4_Book_hanging⟩
    m_added := ⟨x1_Book_added, x5_Book_added, x4_Book_added⟩
    m_rowsB := ⟨x1_Book_rows, x5_Book_rows, x4_Book_rows⟩
    stO := ⟨u12, u13, u14, ⟨_, _, x1_Book_of, x5_Book_of⟩, x4_Book_of⟩
    m_wait := ⟨x1_Book_wait, x5_Book_wait, x4_Book_wait⟩
    m_iterB := ⟨x1_Book___iter__, x5_Book___iter__⟩
    nLenB := u15
    nHintB := u16
    m_itm := ⟨x1_Book___getitem__, u17, x5_Book___getitem__⟩
    nfBN := u18
    nfBD := u19
    kBN := u20
    kBD := u21
    sBN := u22
    sBD := u23
    xN := ⟨⟨_, _, _, _, _, _, _, _, _, _, _, _, _, _, _, oe_NoDish, re_NoDish⟩, sa_NoDish, sx_NoDish, ty_NoDish, ke_NoDish⟩
    nN := z_NoDish_name
    iN := x1_NoDish___init__
    tN := u24
    g_NoDish := PySem.W.mg_of X G y1_NoDish
    xfN := ⟨ga_NoDish, gg_NoDish, sx_NoDish, hd_NoDish⟩
    eN := u25 }
  exact ⟨_, fun s v => .of_eq rfl, fun base _ _ TB => ok_lawT T x2__law_refuses x3__law_refuses TB⟩

theorem walkT {l : PySem.W.OpenLaw} {q : Program} {loose : List Str} {XP : (Str → Option Value) → Heap → Prop} {YP : World → Heap → Prop} {d d2 : DefRec} {K : Params → PySem.W.Frag} {c0 Pt : Addr} (hn : l.most = some 63) (hdf : d.params.defaults = [])
    (hY : ∀ (w : World) (h : Heap), YP w h → (K w.params).In h) (hd : (PyProof.Rows.recsOf q).find? (fun e => e.name == ("_law_refuses" : Str)) = some d2) (ht : ∀ w : World, PySem.W.tabIn (K w.params) ("_law_refuses" : Str) = some (c0, Pt)) (nP : ∀ w : World, (K w.params).lookup Pt = none)
    (F : ∀ (w : World) (mg : Str → Option Value) (fa : Addr) (h : Heap), (K w.params).In h → h.Ns mainGlobals mg → mg d.name = some (.ref fa) →
      ∃ fd : FuncData, (∀ (s : Shared) (u : Value), BindsTo s fd ⟨[u], []⟩ [("_law_script", u)]) ∧ ∀ base : Heap, (K w.params).In base → base.Ns mainGlobals mg → LamX.TabB base mg c0 Pt → FnOk l.prog w (K w.params) mg base CX0 14 fa fd ["_law_script"] (spLawT (K w.params) Pt)) :
    PySem.W.WalkO q loose XP YP l.row.toRowW d [] (fun f vs => PySem.call f vs) := by
  refine Att.attach_callB hn hdf fun w s0 s1 mg mb fa o pm cd doc a vs ns G Y ho hdd hcd hmg hobj hints hlen hbits hg => ?_
  have KX := hY w _ Y
  obtain ⟨hC, hP⟩ := PySem.W.tab_of G.T KX hd (ht w)
  obtain ⟨fd, hb, hF⟩ := F w mg fa _ KX G.T.g hmg
  refine LamX.law_callTs (cs := [(c0, Pt)]) (k := 14) (CX := CX0) (sp := spLawT (K w.params) Pt) KX G.T.g G.T.b G.T.builtins G.T.nolimit hg ?_ ?_ ?_ G.T.bmain hobj hints (Nat.le_trans hlen (by decide)) ⟨rfl, by decide, by decide⟩ (fun base h1 h2 h3 => hF base h1 h2 (h3 _ (List.mem_singleton.mpr rfl))) hb (fun H hH hS => ?_) fun H e s' z => z
  · intro p hp
    rw [List.mem_singleton.mp hp]; exact hP
  · intro p hp
    rw [List.mem_singleton.mp hp]; exact nP w
  · intro p hp
    rw [List.mem_singleton.mp hp]; exact hC
  · refine ⟨a, ns, rfl, hS, hlen, fun p hp => ?_, fun _ => rfl⟩
    rw [List.mem_singleton.mp hp]
    exact LamX.TabS.nil (hH _ (List.mem_singleton.mpr rfl))
end
end K5
open PySem PySem.W PyProof.Rows in
set_option maxRecDepth 100000 in
set_option maxHeartbeats 0 in
theorem PySem.Challenge.cw_cookcalls_k09_books_told_holds : PySem.Challenge.rw_cookcalls_k09_books_told.Holds := by
  w_on; o_law; k_head; (case hw => w_witness2)
  k_fill
  refine K5.walkT (l := PySem.Challenge.rw_cookcalls_k09_books_told) (c0 := 530) (Pt := 526) rfl rfl (fun w h Y => PySem.W.km_in_of Y) rfl (fun w => by kernel_rfl) (fun w => by kernel_rfl) ?F
  case F =>
    intro w mg fa h KX G hmg
    refine' K5.all_mk KX G hmg ?y1_Book ?y2_Book ?y3_Book ?y4_Book ?y5_Book ?y6_Book ?y7_Book ?z_Book_hooks ?z_Book_waits ?y1_Hanging ?y2_Hanging ?y3_Hanging ?y4_Hanging ?y5_Hanging ?y6_Hanging ?y7_Hanging ?z_Hanging_hooks ?y1_NoDish ?oe_NoDish ?re_NoDish ?sa_NoDish ?sx_NoDish ?ty_NoDish ?ke_NoDish ?ga_NoDish ?gg_NoDish ?hd_NoDish ?z_NoDish_name ?x1_is_integer ?x2_is_integer ?x3_is_integer ?x4_is_integer ?x1_is_list ?x2_is_list ?x3_is_list ?x4_is_list ?x1_is_name ?x2_is_name ?x3_is_name ?x4_is_name ?x1_is_dish ?x2_is_dish ?x3_is_dish ?x4_is_dish ?x1_alike ?x2_alike ?x3_alike ?x4_alike ?x1_copied ?x2_copied ?x3_copied ?x4_copied ?x1_NoDish___init__ ?x5_NoDish___init__ ?x2_NoDish___init__ ?x3_NoDish___init__ ?x4_NoDish___init__ ?x1_check_dish ?x2_check_dish ?x3_check_dish ?x4_check_dish ?x1_way_up ?x2_way_up ?x3_way_up ?x4_way_up ?x1_Hanging___init__ ?x5_Hanging___init__ ?x2_Hanging___init__ ?x3_Hanging___init__ ?x4_Hanging___init__ ?x1_Hanging_rows ?x5_Hanging_rows ?x2_Hanging_rows ?x3_Hanging_rows ?x4_Hanging_rows ?x1_Hanging___eq__ ?x5_Hanging___eq__ ?x2_Hanging___eq__ ?x3_Hanging___eq__ ?x4_Hanging___eq__ ?x1_check_rows ?x2_check_rows ?x3_check_rows ?x4_check_rows ?x1_is_hook ?x2_is_hook ?x3_is_hook ?x4_is_hook ?x1_check_rounds ?x2_check_rounds ?x3_check_rounds ?x4_check_rounds ?x1_round_from ?x2_round_from ?x3_round_from ?x4_round_from ?x1_Book___init__ ?x5_Book___init__ ?x2_Book___init__ ?x3_Book___init__ ?x4_Book___init__ ?x1_Book_of ?x5_Book_of ?x2_Book_of ?x3_Book_of ?x4_Book_of ?x1_Book_rows ?x5_Book_rows ?x2_Book_rows ?x3_Book_rows ?x4_Book_rows ?x1_Book_hanging ?x5_Book_hanging ?x2_Book_hanging ?x3_Book_hanging ?x4_Book_hanging ?x1_Book_wait ?x5_Book_wait ?x2_Book_wait ?x3_Book_wait ?x4_Book_wait ?x1_Book_added ?x5_Book_added ?x2_Book_added ?x3_Book_added ?x4_Book_added ?x1_Book___getitem__ ?x5_Book___getitem__ ?x2_Book___getitem__ ?x3_Book___getitem__ ?x4_Book___getitem__ ?x1_Book___iter__ ?x5_Book___iter__ ?x2_Book___iter__ ?x3_Book___iter__ ?x4_Book___iter__ ?x1_Book___eq__ ?x5_Book___eq__ ?x2_Book___eq__ ?x3_Book___eq__ ?x4_Book___eq__ ?x1_check_entries ?x2_check_entries ?x3_check_entries ?x4_check_entries ?x1_is_entry ?x2_is_entry ?x3_is_entry ?x4_is_entry ?x1_is_wait ?x2_is_wait ?x3_is_wait ?x4_is_wait ?x1_check_waits ?x2_check_waits ?x3_check_waits ?x4_check_waits ?x1_sum_ahead ?x2_sum_ahead ?x3_sum_ahead ?x4_sum_ahead ?x1__law_fresh ?x2__law_fresh ?x3__law_fresh ?x4__law_fresh ?x1__law_take ?x2__law_take ?x3__law_take ?x4__law_take ?x1__law_one ?x2__law_one ?x3__law_one ?x4__law_one ?x1__law_mix ?x2__law_mix ?x3__law_mix ?x4__law_mix ?x1__law_some ?x2__law_some ?x3__law_some ?x4__law_some ?x1__law_same ?x2__law_same ?x3__law_same ?x4__law_same ?x1__law_same_dict ?x2__law_same_dict ?x3__law_same_dict ?x4__law_same_dict ?x1__law_loose ?x2__law_loose ?x3__law_loose ?x4__law_loose ?x1__law_names ?x2__law_names ?x3__law_names ?x4__law_names ?x1__law_rising ?x2__law_rising ?x3__law_rising ?x4__law_rising ?x1__law_hung ?x2__law_hung ?x3__law_hung ?x4__law_hung ?x1__law_waiting ?x2__law_waiting ?x3__law_waiting ?x4__law_waiting ?x1__law_with ?x2__law_with ?x3__law_with ?x4__law_with ?x1__law_bend ?x2__law_bend ?x3__law_bend ?x4__law_bend ?x1__law_sum ?x2__law_sum ?x3__law_sum ?x4__law_sum ?x1__law_tried ?x2__law_tried ?x3__law_tried ?x4__law_tried ?x1__law_tells ?x2__law_tells ?x3__law_tells ?x4__law_tells ?x1__law_refuses ?x2__law_refuses ?x3__law_refuses ?x4__law_refuses ?x1_law ?x2_law ?x3_law ?x4_law ?x1_CLOCK ?x1_LETTERS ?x1_LONGEST_NAME ?x1_len ?x1_abs ?x1_int ?x1_list ?x1_tuple ?x1_bool ?x1_str ?x1_dict ?x1_isinstance ?x1_all ?x1_any ?x1_zip ?x1_enumerate ?x1_range ?x1_sorted ?x1_sum ?x1_iter ?u1 ?u2 ?u3 ?u4 ?u5 ?u6 ?u7 ?u8 ?u9 ?u10 ?u11 ?u12 ?u13 ?u14 ?u15 ?u16 ?u17 ?u18 ?u19 ?u20 ?u21 ?u22 ?u23 ?u24 ?u25
    (case y1_Book => first | k_is | kernel_rfl | rfl | decide +kernel)
    (case y2_Book => first | k_is | kernel_rfl | rfl | decide +kernel)
    (case y3_Book => first | k_is | kernel_rfl | rfl | decide +kernel)
    (case y4_Book => first | k_is | kernel_rfl | rfl | decide +kernel)
    (case y5_Book => first | k_is | kernel_rfl | rfl | decide +kernel)
    (case y6_Book => first | k_is | kernel_rfl | rfl | decide +kernel)
    (case y7_Book => first | k_is | kernel_rfl | rfl | decide +kernel)
    (case z_Book_hooks => first | k_is | kernel_rfl | rfl | decide +kernel)
    (case z_Book_waits => first | k_is | kernel_rfl | rfl | decide +kernel)
    (case y1_Hanging => first | k_is | kernel_rfl | rfl | decide +kernel)
    (case y2_Hanging => first | k_is | kernel_rfl | rfl | decide +kernel)
    (case y3_Hanging => first | k_is | kernel_rfl | rfl | decide +kernel)
    (case y4_Hanging => first | k_is | kernel_rfl | rfl | decide +kernel)
    (case y5_Hanging => first | k_is | kernel_rfl | rfl | decide +kernel)
    (case y6_Hanging => first | k_is | kernel_rfl | rfl | decide +kernel)
    (case y7_Hanging => first | k_is | kernel_rfl | rfl | decide +kernel)
    (case z_Hanging_hooks => first | k_is | kernel_rfl | rfl | decide +kernel)
    (case y1_NoDish => first | k_is | kernel_rfl | rfl | decide +kernel)
    (case oe_NoDish => first | k_is | kernel_rfl | rfl | decide +kernel)
    (case re_NoDish => rfl)
    (case sa_NoDish => first | k_is | kernel_rfl | rfl | decide +kernel)
    (case sx_NoDish => first | k_is | kernel_rfl | rfl | decide +kernel)
    (case ty_NoDish => first | k_is | kernel_rfl | rfl | decide +kernel)
    (case ke_NoDish => first | k_is | kernel_rfl | rfl | decide +kernel)
    (case ga_NoDish => first | k_is | kernel_rfl | rfl | decide +kernel)
    (case gg_NoDish => first | k_is | kernel_rfl | rfl | decide +kernel)
    (case hd_NoDish => first | k_is | kernel_rfl | rfl | decide +kernel)
    (case z_NoDish_name => first | k_is | kernel_rfl | rfl | decide +kernel)
    (case x1_is_integer => first | k_is | kernel_rfl | rfl | decide +kernel)
    (case x2_is_integer => first | k_is | kernel_rfl | rfl | decide +kernel)
    (case x3_is_integer => first | k_is | kernel_rfl | rfl | decide +kernel)
    (case x4_is_integer => first | k_is | kernel_rfl | rfl | decide +kernel)
    (case x1_is_list => first | k_is | kernel_rfl | rfl | decide +kernel)
    (case x2_is_list => first | k_is | kernel_rfl | rfl | decide +kernel)
    (case x3_is_list => first | k_is | kernel_rfl | rfl | decide +kernel)
    (case x4_is_list => first | k_is | kernel_rfl | rfl | decide +kernel)
    (case x1_is_name => first | k_is | kernel_rfl | rfl | decide +kernel)
    (case x2_is_name => first | k_is | kernel_rfl | rfl | decide +kernel)
    (case x3_is_name => first | k_is | kernel_rfl | rfl | decide +kernel)
    (case x4_is_name => first | k_is | kernel_rfl | rfl | decide +kernel)
    (case x1_is_dish => first | k_is | kernel_rfl | rfl | decide +kernel)
    (case x2_is_dish => first | k_is | kernel_rfl | rfl | decide +kernel)
    (case x3_is_dish => first | k_is | kernel_rfl | rfl | decide +kernel)
    (case x4_is_dish => first | k_is | kernel_rfl | rfl | decide +kernel)
    (case x1_alike => first | k_is | kernel_rfl | rfl | decide +kernel)
    (case x2_alike => first | k_is | kernel_rfl | rfl | decide +kernel)
    (case x3_alike => first | k_is | kernel_rfl | rfl | decide +kernel)
    (case x4_alike => first | k_is | kernel_rfl | rfl | decide +kernel)
    (case x1_copied => first | k_is | kernel_rfl | rfl | decide +kernel)
    (case x2_copied => first | k_is | kernel_rfl | rfl | decide +kernel)
    (case x3_copied => first | k_is | kernel_rfl | rfl | decide +kernel)
    (case x4_copied => first | k_is | kernel_rfl | rfl | decide +kernel)
    (case x1_NoDish___init__ => first | k_is | kernel_rfl | rfl | decide +kernel)
    (case x5_NoDish___init__ => first | k_is | kernel_rfl | rfl | decide +kernel)
    (case x2_NoDish___init__ => first | k_is | kernel_rfl | rfl | decide +kernel)
    (case x3_NoDish___init__ => first | k_is | kernel_rfl | rfl | decide +kernel)
    (case x4_NoDish___init__ => first | k_is | kernel_rfl | rfl | decide +kernel)
    (case x1_check_dish => first | k_is | kernel_rfl | rfl | decide +kernel)
    (case x2_check_dish => first | k_is | kernel_rfl | rfl | decide +kernel)
    (case x3_check_dish => first | k_is | kernel_rfl | rfl | decide +kernel)
    (case x4_check_dish => first | k_is | kernel_rfl | rfl | decide +kernel)
    (case x1_way_up => first | k_is | kernel_rfl | rfl | decide +kernel)
    (case x2_way_up => first | k_is | kernel_rfl | rfl | decide +kernel)
    (case x3_way_up => first | k_is | kernel_rfl | rfl | decide +kernel)
    (case x4_way_up => first | k_is | kernel_rfl | rfl | decide +kernel)
    (case x1_Hanging___init__ => first | k_is | kernel_rfl | rfl | decide +kernel)
    (case x5_Hanging___init__ => first | k_is | kernel_rfl | rfl | decide +kernel)
    (case x2_Hanging___init__ => first | k_is | kernel_rfl | rfl | decide +kernel)
    (case x3_Hanging___init__ => first | k_is | kernel_rfl | rfl | decide +kernel)
    (case x4_Hanging___init__ => first | k_is | kernel_rfl | rfl | decide +kernel)
    (case x1_Hanging_rows => first | k_is | kernel_rfl | rfl | decide +kernel)
    (case x5_Hanging_rows => first | k_is | kernel_rfl | rfl | decide +kernel)
    (case x2_Hanging_rows => first | k_is | kernel_rfl | rfl | decide +kernel)
    (case x3_Hanging_rows => first | k_is | kernel_rfl | rfl | decide +kernel)
    (case x4_Hanging_rows => first | k_is | kernel_rfl | rfl | decide +kernel)
    (case x1_Hanging___eq__ => first | k_is | kernel_rfl | rfl | decide +kernel)
    (case x5_Hanging___eq__ => first | k_is | kernel_rfl | rfl | decide +kernel)
    (case x2_Hanging___eq__ => first | k_is | kernel_rfl | rfl | decide +kernel)
    (case x3_Hanging___eq__ => first | k_is | kernel_rfl | rfl | decide +kernel)
    (case x4_Hanging___eq__ => first | k_is | kernel_rfl | rfl | decide +kernel)
    (case x1_check_rows => first | k_is | kernel_rfl | rfl | decide +kernel)
    (case x2_check_rows => first | k_is | kernel_rfl | rfl | decide +kernel)
    (case x3_check_rows => first | k_is | kernel_rfl | rfl | decide +kernel)
    (case x4_check_rows => first | k_is | kernel_rfl | rfl | decide +kernel)
    (case x1_is_hook => first | k_is | kernel_rfl | rfl | decide +kernel)
    (case x2_is_hook => first | k_is | kernel_rfl | rfl | decide +kernel)
    (case x3_is_hook => first | k_is | kernel_rfl | rfl | decide +kernel)
    (case x4_is_hook => first | k_is | kernel_rfl | rfl | decide +kernel)
    (case x1_check_rounds => first | k_is | kernel_rfl | rfl | decide +kernel)
    (case x2_check_rounds => first | k_is | kernel_rfl | rfl | decide +kernel)
    (case x3_check_rounds => first | k_is | kernel_rfl | rfl | decide +kernel)
    (case x4_check_rounds => first | k_is | kernel_rfl | rfl | decide +kernel)
    (case x1_round_from => first | k_is | kernel_rfl | rfl | decide +kernel)
    (case x2_round_from => first | k_is | kernel_rfl | rfl | decide +kernel)
    (case x3_round_from => first | k_is | kernel_rfl | rfl | decide +kernel)
    (case x4_round_from => first | k_is | kernel_rfl | rfl | decide +kernel)
    (case x1_Book___init__ => first | k_is | kernel_rfl | rfl | decide +kernel)
    (case x5_Book___init__ => first | k_is | kernel_rfl | rfl | decide +kernel)
    (case x2_Book___init__ => first | k_is | kernel_rfl | rfl | decide +kernel)
    (case x3_Book___init__ => first | k_is | kernel_rfl | rfl | decide +kernel)
    (case x4_Book___init__ => first | k_is | kernel_rfl | rfl | decide +kernel)
    (case x1_Book_of => first | k_is | kernel_rfl | rfl | decide +kernel)
    (case x5_Book_of => first | k_is | kernel_rfl | rfl | decide +kernel)
    (case x2_Book_of => first | k_is | kernel_rfl | rfl | decide +kernel)
    (case x3_Book_of => first | k_is | kernel_rfl | rfl | decide +kernel)
    (case x4_Book_of => first | k_is | kernel_rfl | rfl | decide +kernel)
    (case x1_Book_rows => first | k_is | kernel_rfl | rfl | decide +kernel)
    (case x5_Book_rows => first | k_is | kernel_rfl | rfl | decide +kernel)
    (case x2_Book_rows => first | k_is | kernel_rfl | rfl | decide +kernel)
    (case x3_Book_rows => first | k_is | kernel_rfl | rfl | decide +kernel)
    (case x4_Book_rows => first | k_is | kernel_rfl | rfl | decide +kernel)
    (case x1_Book_hanging => first | k_is | kernel_rfl | rfl | decide +kernel)
    (case x5_Book_hanging => first | k_is | kernel_rfl | rfl | decide +kernel)
    (case x2_Book_hanging => first | k_is | kernel_rfl | rfl | decide +kernel)
    (case x3_Book_hanging => first | k_is | kernel_rfl | rfl | decide +kernel)
    (case x4_Book_hanging => first | k_is | kernel_rfl | rfl | decide +kernel)
    (case x1_Book_wait => first | k_is | kernel_rfl | rfl | decide +kernel)
    (case x5_Book_wait => first | k_is | kernel_rfl | rfl | decide +kernel)
    (case x2_Book_wait => first | k_is | kernel_rfl | rfl | decide +kernel)
    (case x3_Book_wait => first | k_is | kernel_rfl | rfl | decide +kernel)
    (case x4_Book_wait => first | k_is | kernel_rfl | rfl | decide +kernel)
    (case x1_Book_added => first | k_is | kernel_rfl | rfl | decide +kernel)
    (case x5_Book_added => first | k_is | kernel_rfl | rfl | decide +kernel)
    (case x2_Book_added => first | k_is | kernel_rfl | rfl | decide +kernel)
    (case x3_Book_added => first | k_is | kernel_rfl | rfl | decide +kernel)
    (case x4_Book_added => first | k_is | kernel_rfl | rfl | decide +kernel)
    (case x1_Book___getitem__ => first | k_is | kernel_rfl | rfl | decide +kernel)
    (case x5_Book___getitem__ => first | k_is | kernel_rfl | rfl | decide +kernel)
    (case x2_Book___getitem__ => first | k_is | kernel_rfl | rfl | decide +kernel)
    (case x3_Book___getitem__ => first | k_is | kernel_rfl | rfl | decide +kernel)
    (case x4_Book___getitem__ => first | k_is | kernel_rfl | rfl | decide +kernel)
    (case x1_Book___iter__ => first | k_is | kernel_rfl | rfl | decide +kernel)
    (case x5_Book___iter__ => first | k_is | kernel_rfl | rfl | decide +kernel)
    (case x2_Book___iter__ => first | k_is | kernel_rfl | rfl | decide +kernel)
    (case x3_Book___iter__ => first | k_is | kernel_rfl | rfl | decide +kernel)
    (case x4_Book___iter__ => first | k_is | kernel_rfl | rfl | decide +kernel)
    (case x1_Book___eq__ => first | k_is | kernel_rfl | rfl | decide +kernel)
    (case x5_Book___eq__ => first | k_is | kernel_rfl | rfl | decide +kernel)
    (case x2_Book___eq__ => first | k_is | kernel_rfl | rfl | decide +kernel)
    (case x3_Book___eq__ => first | k_is | kernel_rfl | rfl | decide +kernel)
    (case x4_Book___eq__ => first | k_is | kernel_rfl | rfl | decide +kernel)
    (case x1_check_entries => first | k_is | kernel_rfl | rfl | decide +kernel)
    (case x2_check_entries => first | k_is | kernel_rfl | rfl | decide +kernel)
    (case x3_check_entries => first | k_is | kernel_rfl | rfl | decide +kernel)
    (case x4_check_entries => first | k_is | kernel_rfl | rfl | decide +kernel)
    (case x1_is_entry => first | k_is | kernel_rfl | rfl | decide +kernel)
    (case x2_is_entry => first | k_is | kernel_rfl | rfl | decide +kernel)
    (case x3_is_entry => first | k_is | kernel_rfl | rfl | decide +kernel)
    (case x4_is_entry => first | k_is | kernel_rfl | rfl | decide +kernel)
    (case x1_is_wait => first | k_is | kernel_rfl | rfl | decide +kernel)
    (case x2_is_wait => first | k_is | kernel_rfl | rfl | decide +kernel)
    (case x3_is_wait => first | k_is | kernel_rfl | rfl | decide +kernel)
    (case x4_is_wait => first | k_is | kernel_rfl | rfl | decide +kernel)
    (case x1_check_waits => first | k_is | kernel_rfl | rfl | decide +kernel)
    (case x2_check_waits => first | k_is | kernel_rfl | rfl | decide +kernel)
    (case x3_check_waits => first | k_is | kernel_rfl | rfl | decide +kernel)
    (case x4_check_waits => first | k_is | kernel_rfl | rfl | decide +kernel)
    (case x1_sum_ahead => first | k_is | kernel_rfl | rfl | decide +kernel)
    (case x2_sum_ahead => first | k_is | kernel_rfl | rfl | decide +kernel)
    (case x3_sum_ahead => first | k_is | kernel_rfl | rfl | decide +kernel)
    (case x4_sum_ahead => first | k_is | kernel_rfl | rfl | decide +kernel)
    (case x1__law_fresh => first | k_is | kernel_rfl | rfl | decide +kernel)
    (case x2__law_fresh => first | k_is | kernel_rfl | rfl | decide +kernel)
    (case x3__law_fresh => first | k_is | kernel_rfl | rfl | decide +kernel)
    (case x4__law_fresh => first | k_is | kernel_rfl | rfl | decide +kernel)
    (case x1__law_take => first | k_is | kernel_rfl | rfl | decide +kernel)
    (case x2__law_take => first | k_is | kernel_rfl | rfl | decide +kernel)
    (case x3__law_take => first | k_is | kernel_rfl | rfl | decide +kernel)
    (case x4__law_take => first | k_is | kernel_rfl | rfl | decide +kernel)
    (case x1__law_one => first | k_is | kernel_rfl | rfl | decide +kernel)
    (case x2__law_one => first | k_is | kernel_rfl | rfl | decide +kernel)
    (case x3__law_one => first | k_is | kernel_rfl | rfl | decide +kernel)
    (case x4__law_one => first | k_is | kernel_rfl | rfl | decide +kernel)
    (case x1__law_mix => first | k_is | kernel_rfl | rfl | decide +kernel)
    (case x2__law_mix => first | k_is | kernel_rfl | rfl | decide +kernel)
    (case x3__law_mix => first | k_is | kernel_rfl | rfl | decide +kernel)
    (case x4__law_mix => first | k_is | kernel_rfl | rfl | decide +kernel)
    (case x1__law_some => first | k_is | kernel_rfl | rfl | decide +kernel)
    (case x2__law_some => first | k_is | kernel_rfl | rfl | decide +kernel)
    (case x3__law_some => first | k_is | kernel_rfl | rfl | decide +kernel)
    (case x4__law_some => first | k_is | kernel_rfl | rfl | decide +kernel)
    (case x1__law_same => first | k_is | kernel_rfl | rfl | decide +kernel)
    (case x2__law_same => first | k_is | kernel_rfl | rfl | decide +kernel)
    (case x3__law_same => first | k_is | kernel_rfl | rfl | decide +kernel)
    (case x4__law_same => first | k_is | kernel_rfl | rfl | decide +kernel)
    (case x1__law_same_dict => first | k_is | kernel_rfl | rfl | decide +kernel)
    (case x2__law_same_dict => first | k_is | kernel_rfl | rfl | decide +kernel)
    (case x3__law_same_dict => first | k_is | kernel_rfl | rfl | decide +kernel)
    (case x4__law_same_dict => first | k_is | kernel_rfl | rfl | decide +kernel)
    (case x1__law_loose => first | k_is | kernel_rfl | rfl | decide +kernel)
    (case x2__law_loose => first | k_is | kernel_rfl | rfl | decide +kernel)
    (case x3__law_loose => first | k_is | kernel_rfl | rfl | decide +kernel)
    (case x4__law_loose => first | k_is | kernel_rfl | rfl | decide +kernel)
    (case x1__law_names => first | k_is | kernel_rfl | rfl | decide +kernel)
    (case x2__law_names => first | k_is | kernel_rfl | rfl | decide +kernel)
    (case x3__law_names => first | k_is | kernel_rfl | rfl | decide +kernel)
    (case x4__law_names => first | k_is | kernel_rfl | rfl | decide +kernel)
    (case x1__law_rising => first | k_is | kernel_rfl | rfl | decide +kernel)
    (case x2__law_rising => first | k_is | kernel_rfl | rfl | decide +kernel)
    (case x3__law_rising => first | k_is | kernel_rfl | rfl | decide +kernel)
    (case x4__law_rising => first | k_is | kernel_rfl | rfl | decide +kernel)
    (case x1__law_hung => first | k_is | kernel_rfl | rfl | decide +kernel)
    (case x2__law_hung => first | k_is | kernel_rfl | rfl | decide +kernel)
    (case x3__law_hung => first | k_is | kernel_rfl | rfl | decide +kernel)
    (case x4__law_hung => first | k_is | kernel_rfl | rfl | decide +kernel)
    (case x1__law_waiting => first | k_is | kernel_rfl | rfl | decide +kernel)
    (case x2__law_waiting => first | k_is | kernel_rfl | rfl | decide +kernel)
    (case x3__law_waiting => first | k_is | kernel_rfl | rfl | decide +kernel)
    (case x4__law_waiting => first | k_is | kernel_rfl | rfl | decide +kernel)
    (case x1__law_with => first | k_is | kernel_rfl | rfl | decide +kernel)
    (case x2__law_with => first | k_is | kernel_rfl | rfl | decide +kernel)
    (case x3__law_with => first | k_is | kernel_rfl | rfl | decide +kernel)
    (case x4__law_with => first | k_is | kernel_rfl | rfl | decide +kernel)
    (case x1__law_bend => first | k_is | kernel_rfl | rfl | decide +kernel)
    (case x2__law_bend => first | k_is | kernel_rfl | rfl | decide +kernel)
    (case x3__law_bend => first | k_is | kernel_rfl | rfl | decide +kernel)
    (case x4__law_bend => first | k_is | kernel_rfl | rfl | decide +kernel)
    (case x1__law_sum => first | k_is | kernel_rfl | rfl | decide +kernel)
    (case x2__law_sum => first | k_is | kernel_rfl | rfl | decide +kernel)
    (case x3__law_sum => first | k_is | kernel_rfl | rfl | decide +kernel)
    (case x4__law_sum => first | k_is | kernel_rfl | rfl | decide +kernel)
    (case x1__law_tried => first | k_is | kernel_rfl | rfl | decide +kernel)
    (case x2__law_tried => first | k_is | kernel_rfl | rfl | decide +kernel)
    (case x3__law_tried => first | k_is | kernel_rfl | rfl | decide +kernel)
    (case x4__law_tried => first | k_is | kernel_rfl | rfl | decide +kernel)
    (case x1__law_tells => first | k_is | kernel_rfl | rfl | decide +kernel)
    (case x2__law_tells => first | k_is | kernel_rfl | rfl | decide +kernel)
    (case x3__law_tells => first | k_is | kernel_rfl | rfl | decide +kernel)
    (case x4__law_tells => first | k_is | kernel_rfl | rfl | decide +kernel)
    (case x1__law_refuses => first | k_is | kernel_rfl | rfl | decide +kernel)
    (case x2__law_refuses => first | k_is | kernel_rfl | rfl | decide +kernel)
    (case x3__law_refuses => first | k_is | kernel_rfl | rfl | decide +kernel)
    (case x4__law_refuses => first | k_is | kernel_rfl | rfl | decide +kernel)
    (case x1_law => first | k_is | kernel_rfl | rfl | decide +kernel)
    (case x2_law => first | k_is | kernel_rfl | rfl | decide +kernel)
    (case x3_law => first | k_is | kernel_rfl | rfl | decide +kernel)
    (case x4_law => first | k_is | kernel_rfl | rfl | decide +kernel)
    (case x1_CLOCK => first | k_is | kernel_rfl | rfl | decide +kernel)
    (case x1_LETTERS => first | k_is | kernel_rfl | rfl | decide +kernel)
    (case x1_LONGEST_NAME => first | k_is | kernel_rfl | rfl | decide +kernel)
    (case x1_len => first | k_is | kernel_rfl | rfl | decide +kernel)
    (case x1_abs => first | k_is | kernel_rfl | rfl | decide +kernel)
    (case x1_int => first | k_is | kernel_rfl | rfl | decide +kernel)
    (case x1_list => first | k_is | kernel_rfl | rfl | decide +kernel)
    (case x1_tuple => first | k_is | kernel_rfl | rfl | decide +kernel)
    (case x1_bool => first | k_is | kernel_rfl | rfl | decide +kernel)
    (case x1_str => first | k_is | kernel_rfl | rfl | decide +kernel)
    (case x1_dict => first | k_is | kernel_rfl | rfl | decide +kernel)
    (case x1_isinstance => first | k_is | kernel_rfl | rfl | decide +kernel)
    (case x1_all => first | k_is | kernel_rfl | rfl | decide +kernel)
    (case x1_any => first | k_is | kernel_rfl | rfl | decide +kernel)
    (case x1_zip => first | k_is | kernel_rfl | rfl | decide +kernel)
    (case x1_enumerate => first | k_is | kernel_rfl | rfl | decide +kernel)
    (case x1_range => first | k_is | kernel_rfl | rfl | decide +kernel)
    (case x1_sorted => first | k_is | kernel_rfl | rfl | decide +kernel)
    (case x1_sum => first | k_is | kernel_rfl | rfl | decide +kernel)
    (case x1_iter => first | k_is | kernel_rfl | rfl | decide +kernel)
    (case u1 => first | k_is | kernel_rfl | rfl | decide +kernel)
    (case u2 => first | k_is | kernel_rfl | rfl | decide +kernel)
    (case u3 => first | k_is | kernel_rfl | rfl | decide +kernel)
    (case u4 => first | k_is | kernel_rfl | rfl | decide +kernel)
    (case u5 => first | k_is | kernel_rfl | rfl | decide +kernel)
    (case u6 => first | k_is | kernel_rfl | rfl | decide +kernel)
    (case u7 => first | k_is | kernel_rfl | rfl | decide +kernel)
    (case u8 => first | k_is | kernel_rfl | rfl | decide +kernel)
    (case u9 => first | k_is | kernel_rfl | rfl | decide +kernel)
    (case u10 => first | k_is | kernel_rfl | rfl | decide +kernel)
    (case u11 => first | k_is | kernel_rfl | rfl | decide +kernel)
    (case u12 => first | k_is | kernel_rfl | rfl | decide +kernel)
    (case u13 => first | k_is | kernel_rfl | rfl | decide +kernel)
    (case u14 => first | k_is | kernel_rfl | rfl | decide +kernel)
    (case u15 => first | k_is | kernel_rfl | rfl | decide +kernel)
    (case u16 => first | k_is | kernel_rfl | rfl | decide +kernel)
    (case u17 => first | k_is | kernel_rfl | rfl | decide +kernel)
    (case u18 => first | k_is | kernel_rfl | rfl | decide +kernel)
    (case u19 => first | k_is | kernel_rfl | rfl | decide +kernel)
    (case u20 => first | k_is | kernel_rfl | rfl | decide +kernel)
    (case u21 => first | k_is | kernel_rfl | rfl | decide +kernel)
    (case u22 => first | k_is | kernel_rfl | rfl | decide +kernel)
    (case u23 => first | k_is | kernel_rfl | rfl | decide +kernel)
    (case u24 => first | k_is | kernel_rfl | rfl | decide +kernel)
    (case u25 => first | k_is | kernel_rfl | rfl | decide +kernel)
    all_goals exact Value.none
