import PyProof.Rows.All
import Wide.All
import OpenK.AllK
import Wide.FinOn
import HandS.ForMost
import HandS.Style
import HandS.DictComp
import HandS.Defaults
import HandS.Walk
import KE.GoesMore
import PyProof.Draws
import HandS.OwnEq
import HandS.More
import HandS.IsInst
import HandS.Words
import HandS.DeepEq
import HandS.Sort
import KE.KDictList
import HandS.Iter
import HandS.IterVal
import KE.KOwnIter
import HandS.OwnIter
import HandS.NamedTupGet
import HandS.Wide
import HandS.Deep
import HandS.TupAny
import HandS.Flow
import HandS.Zip
import HandS.WordsDict
import HandS.Lambda
import HandS.TryMany
import HandS.ExcInit
import HandS.ExcField
import HandS.ForDict
import PyProof.Rows.StrMeet
import KE.KStateDown
import HandS.Head0
import HandS.Head1
import HandS.Head2
import HandS.HeadEnd
import HandS.HeadHook1
import HandS.HeadHook2
import HandS.HeadHook3
import HandS.HeadHook4
import PySem.Challenge.RW_cookcalls_k26_whole_shared_times_cancel
set_option Elab.async false
set_option linter.all false
set_option maxRecDepth 100000
set_option maxHeartbeats 2000000
namespace EnT
open PySem PySem.Spec PyProof.Rows L2
/-! enumerate over a tuple, as a walk of the hand layer -/
theorem newOver {u : Value} {cell : Obj} {G : Heap → Prop} (B : Begins u cell G) :
    Meets (Builtin.«enumerate.__new__» ⟨[.type "enumerate", u], []⟩) (fun _ R z => G z.heap ∧
      R (.ok (.ret (.ref (z.heap.push cell).objs.size)))
        { z with heap := (z.heap.push cell).push { cls := .type "enumerate", data := .fields #[.none, .bool false, .ref z.heap.objs.size, rawInt 0, .none, .none] } }) :=
  .of_wp fun P w A R z hz => by
    obtain ⟨g0, gs, dr, tk, os⟩ := z; obtain ⟨hG, hR⟩ := hz
    have below := sub_enumerate
    have step : ∀ {A' : Around} {E : Value → Shared → Prop} {Q : Value → Shared → Prop}, Q (.ref g0.objs.size) ⟨g0.push cell, gs, dr, tk, os⟩ → wpAny (model P w) A' (pyIter u) Q E ⟨g0, gs, dr, tk, os⟩ :=
      fun z => B.iter P w _ _ ⟨g0, gs, dr, tk, os⟩ _ hG z
    wp_walk using step
    refine wpAny_stack_any fun _ => wpAny_pure ?_
    split
    · rename_i c _ _ _ _ _
      cases (c == Value.type "enumerate") <;> (wp_walk using step; exact ⟨_, rfl, hR⟩)
    · wp_walk using step
      exact ⟨_, rfl, hR⟩
theorem made {P : Program} {w : World} {A : Around} {E : Value → Shared → Prop} {z : Shared} {u : Value} {cell : Obj} {G : Heap → Prop} {Q : Value → Shared → Prop} (B : Begins u cell G) (hG : G z.heap)
    (k : ∀ g, IsEnum g (z.heap.objs.size + 1) z.heap.objs.size 0 .none → g.get? z.heap.objs.size = some cell → (∀ b o, z.heap.get? b = some o → g.get? b = some o) → Q (.ref (z.heap.objs.size + 1)) { z with heap := g }) :
    wpAny (model P w) A (call (.type "enumerate") [u]) Q E z := by
  refine callType_new F.called_enumerate (by decide) (F.typeCall_enumerate_1 _) (F.newCall_enumerate_1 _) (fun o => F.args_object_init_2 o _) F.entry_enumerate_new (newOver B) ⟨hG, ?_⟩
  have size : (z.heap.push cell).objs.size = z.heap.objs.size + 1 := Heap.size_push ..
  show _ ∧ _
  rw [size]
  generalize hg : (z.heap.push cell).push { cls := .type "enumerate", data := .fields #[.none, .bool false, .ref z.heap.objs.size, rawInt 0, .none, .none] } = g
  have top : IsEnum g (z.heap.objs.size + 1) z.heap.objs.size 0 .none := by
    rw [← hg, ← size]
    exact Heap.get?_push_size _ rfl
  refine ⟨⟨_, top, rfl⟩, k g top ?_ fun b o e => ?_⟩
  · rw [← hg]
    exact Heap.get?_push_of_some _ (Heap.get?_push_size _ B.free)
  · rw [← hg]
    exact Heap.get?_push_of_some _ (Heap.get?_push_of_some _ e)
/-- the tuple at a as it stands at each turn, each item in a new pair -/
def Iet (K : PySem.W.Frag) (a : Addr) : It where
  go i H := ∃ (ys : List V) (y : V), SqT K H a ys ∧ ys[i]? = some y
  yld i H v H' := ∃ T y, v = .ref T ∧ H T = none ∧ H' = upd H T (.tup [.int (i : Nat), y]) ∧ ∀ ys, SqT K H a ys → ys[i]? = some y
  stop i H := ∃ ys : List V, SqT K H a ys ∧ ys.length = i
theorem turns {P : Program} {w : World} {K : PySem.W.Frag} {elts : List Expr} {kk : Nat} {tpos : Pos} (a e j : Addr) :
    Turn P w K (.Tuple elts kk tpos) (Iet K a) [e, j] e (fun i g => (∃ old, IsEnum g e j ((i : Nat) : Int) old) ∧ g.IsTupleIter j a i ∧ e ≠ j) where
  mem := by simp
  obj := fun i g st b hb => by
    obtain ⟨⟨old, he⟩, ⟨o, ho, _, hd⟩, _⟩ := st
    have two : b = e ∨ b = j := by simpa using hb
    rcases two with q | q <;> subst q
    · exact ⟨_, he, fun v z => nomatch z⟩
    · exact ⟨o, ho, fun v z => by rw [hd] at z; cases z⟩
  keep := fun i g g' st k => by
    obtain ⟨⟨old, he⟩, hj, hne⟩ := st
    exact ⟨⟨old, k e (by simp) _ he⟩, hj.at fun o q => k j (by simp) o q, hne⟩
  item := by
    intro X hP hw hK hc i pins s σ H E I hf st hg
    subst hP hw hK
    obtain ⟨⟨old, he⟩, hj, hne⟩ := st
    obtain ⟨ys, y, hq, hy⟩ := hg
    obtain ⟨its, rv, p, _⟩ := I.tuple hq
    obtain ⟨u, hu, ru⟩ := rv.get hy
    have ht : s.heap.IsTuple a its.toArray := p
    have haj : a ≠ j := fun z => by
      obtain ⟨o1, e1, c1, _⟩ := hj
      obtain ⟨o2, e2, c2, _⟩ := ht
      rw [z, e1] at e2
      cases e2
      rw [c1] at c2
      exact absurd (Value.type.inj c2) (by decide)
    have hae : e ≠ a := fun z => by
      obtain ⟨o2, e2, c2, _⟩ := ht
      rw [← z, he] at e2
      cases e2
      exact absurd (Value.type.inj c2) (by decide)
    have lt : i < its.toArray.size := by
      have := rv.length
      have h1 := (List.getElem?_eq_some_iff.mp hy).1
      rw [List.size_toArray]
      omega
    have hel : e < s.heap.objs.size := Heap.lt_size he
    have hjl : j < s.heap.objs.size := by obtain ⟨_, q, _⟩ := hj; exact Heap.lt_size q
    refine wpAny_pyNext_enum_itemD (Draws.tuple (show X.A.in1.handled = none from I.ok.hd hc) j a haj its.toArray) he ⟨hj, ht⟩ lt hne (by simp [hne, hae]) fun x g tk hx ho hs hT hsz hk => ?_
    refine ⟨_, rfl, wpAny_letOwnedTupleGo_enum (s := { s with heap := g, toks := tk + 1 }) ho fun g' he' sb => ?_⟩
    have eu : x = u := by
      have h1 : its.toArray[i]? = some x := hx
      have h2 : its.toArray[i]? = some u := by simpa using hu
      rw [h1] at h2
      exact Option.some.inj h2
    subst eu
    have hT' : g'.get? s.heap.objs.size = some { cls := .type "tuple", data := .seq #[.int i tk, x] } := (sb.2 _ (Nat.ne_of_gt hel)).trans hT
    have fresh : ObjOk X.prog X.w (upd H s.heap.objs.size (.tup [.int (i : Nat), y])) g' s.heap.objs.size (.tup [.int (i : Nat), y]) :=
      ⟨by show 2 ≤ sizeLine; decide, [.int i tk, x], .cons ⟨_, rfl⟩ (.cons ru .nil), ⟨_, hT', rfl, _, rfl⟩⟩
    have I1 : Inv X pins σ (upd H s.heap.objs.size (.tup [.int (i : Nat), y])) { s with heap := g', toks := tk + 1 } :=
      I.turnedNew (ch := [e, j]) (fun b o hb q => (sb.2 b (fun z => hb (by simp [z]))).trans (hk b o (fun z => hb (by simp [z])) (fun z => hb (by simp [z])) q)) hf (Nat.le_refl _) fresh
    refine ⟨.ref s.heap.objs.size, _, I1, rfl, ⟨_, y, rfl, I.hok.fresh (Nat.le_refl _), rfl, fun zs hz => by rw [I.tuple_inj hz hq]; exact hy⟩, ⟨⟨x, ?_⟩, hs.1.at fun o q => (sb.2 j (Ne.symm hne)).trans q, hne⟩, fun b hb => ?_⟩
    · have e1 : ((i + 1 : Nat) : Int) = (i : Int) + 1 := by omega
      rw [e1]; exact he'
    · have old2 : b < s.heap.objs.size := by
        have two : b = e ∨ b = j := by simpa using hb
        rcases two with q | q <;> (rw [q]; assumption)
      rw [upd_ne (Nat.ne_of_lt old2)]
      exact (hf b hb).1
  done := by
    intro X hP hw hK hc i pins s σ H E I hf st hg
    subst hP hw hK
    obtain ⟨⟨old, he⟩, hj, hne⟩ := st
    obtain ⟨ys, hq, hy⟩ := hg
    obtain ⟨its, rv, p, _⟩ := I.tuple hq
    obtain ⟨f0, f1, f2, f3, f4, f5⟩ := hf j (by simp)
    have ht : s.heap.IsTuple a its.toArray := p
    have haj : a ≠ j := fun z => by
      obtain ⟨o1, e1, c1, _⟩ := hj
      obtain ⟨o2, e2, c2, _⟩ := ht
      rw [z, e1] at e2
      cases e2
      rw [c1] at c2
      exact absurd (Value.type.inj c2) (by decide)
    have sz : its.toArray.size = i := by
      have := rv.length
      rw [List.size_toArray]
      omega
    have D := Draws.tuple (prog := X.prog) (w := X.w) (show X.A.in1.handled = none from I.ok.hd hc) j a haj its.toArray
    rw [sz] at D
    exact wpAny_pyNext_enum_endD D he ⟨hj, ht⟩ fun g eb => ⟨rfl, I.turned (t' := s.toks) (fun b o hb q => eb b o hb q) f0 f1 f3 f4 f5⟩
  self := fun A i s Q E st k => by
    obtain ⟨⟨_, he⟩, _⟩ := st
    exact wpAny_pyIter_enum he k
def iEnumT (K : PySem.W.Frag) (ta : TA) : TI := fun σ H R => ta σ H fun vs H1 => ∃ a ys, vs = [V.ref a] ∧ SqT K H1 a ys ∧ R (Iet K a) H1
theorem pi_enumT {X : Cx} {e : Expr} {ta : TA} {p pos tpos : Pos} {elts : List Expr} {kk : Nat} (gl : Gl X "enumerate") (free : X.mg "enumerate" = none) (ha : PA X [e] ta) (hs : starEach [e] X.env = [(false, eval e X.env)] := by rfl) :
    PI X (.Tuple elts kk tpos) (.Call (.Name "enumerate" p) [e] [] pos) (iEnumT X.K ta) := by
  refine ⟨fun pins s σ H R I h => ?_⟩
  refine Call_ (ld_blt I gl free boot_enumerate (PyProof.Rows.callWith_type1 (thn (ha.run pos pins s σ H _ I h) fun us s1 ⟨vs, H1, I1, r1, q1⟩ => ?_) hs rfl))
  obtain ⟨a, ys, ex, hq, q⟩ := q1
  subst ex
  cases r1 with
  | cons r rr =>
    cases rr
    cases r
    obtain ⟨its, rv, p', _⟩ := I1.tuple hq
    have ht : s1.heap.IsTuple a its.toArray := p'
    refine made (begins_tuple a its.toArray) ht fun g he hj hk => wpAny_pyIter_enum he ?_
    have I2 : Inv X pins σ H1 { s1 with heap := g } := I1.kept (t' := s1.toks) hk
    refine ⟨s1.heap.objs.size + 1, [s1.heap.objs.size + 1, s1.heap.objs.size], _, _, H1, rfl, I2, turns a (s1.heap.objs.size + 1) s1.heap.objs.size, ⟨⟨.none, he⟩, ⟨_, hj, rfl, rfl⟩, Nat.succ_ne_self _⟩, fun b hb => ?_, q⟩
    have hle : s1.heap.objs.size ≤ b := by
      have two : b = s1.heap.objs.size + 1 ∨ b = s1.heap.objs.size := by simpa using hb
      rcases two with z | z <;> rw [z]
      · exact Nat.le_add_right _ _
      · exact Nat.le_refl _
    exact I1.fpOk hle (I1.hok.fresh hle)
/-- one of two walks -/
theorem pi_or {X : Cx} {tg e : Expr} {t u : TI} (h : PI X tg e t) (k : PI X tg e u) : PI X tg e (fun σ H R => t σ H R ∨ u σ H R) :=
  ⟨fun pins s σ H R I q => q.elim (h.run pins s σ H R I) (k.run pins s σ H R I)⟩
theorem walk_enumT {K : PySem.W.Frag} {a : Addr} {xs : List V} : Walk (Iet K a) xs.length (fun H => SqT K H a xs) (YPair (fun i => some (.int (i : Nat))) (fun i => xs[i]?)) :=
  ⟨fun _ _ hi q => ⟨xs, _, q, List.getElem?_eq_getElem hi⟩, fun _ q => ⟨xs, q, rfl⟩, fun i H v H' _ q y => by
    obtain ⟨T, x, h1, h2, h3, h4⟩ := y
    exact ⟨T, _, x, h1, h2, h3, rfl, h4 xs q⟩⟩
end EnT
set_option Elab.async false
set_option linter.all false
set_option maxRecDepth 100000
set_option maxHeartbeats 2000000
/-! == and != of an instance whose class has an == of its own: any answer, any other thing -/
namespace Own
open PySem PySem.Spec PyProof.Rows L2
theorem tyIs_keeps {s s' : Shared} {u : Value} {T : String} (k : ∀ b o, s.heap.get? b = some o → s'.heap.get? b = some o) (h : s.TypeIs u T) : s'.TypeIs u T := by
  cases u <;> first | exact h | (obtain ⟨o, h1, h2⟩ := h; exact ⟨o, k _ _ h1, h2⟩)
theorem looks_ty {M : Model} {s : Shared} {u : Value} {T : String} (h : s.TypeIs u T) : PySem.W.Looks M s.heap (typeOf u) (.type T) := fun A Q E s' k q => wpAny_typeOf (tyIs_keeps k h) q
/-- what stands on the other side -/
inductive Oth (K : PySem.W.Frag) (H : Hp) (C : Addr) : V → Prop
  | ty {y : V} {T : String} (h : TyB K H y T) (n : PySem.W.notFirst K C (.type T) = true) : Oth K H C y
  | ins {b D dy : Addr} {gs : List (Str × V)} (h : H b = some (.ins D dy gs)) (n : PySem.W.notFirst K C (.ref D) = true) : Oth K H C (.ref b)
theorem Oth.looks {X : Cx} {pins : List (Addr × Obj)} {σ : L2.St} {H : Hp} {s : Shared} {C : Addr} {y : V} {v : Value} (I : L2.Inv X pins σ H s) (ry : L2.RelV y v) (o : Oth X.K H C y) :
    ∃ tb, PySem.W.Looks (model X.prog X.w) s.heap (typeOf v) tb ∧ PySem.W.notFirst X.K C tb = true := by
  cases o with
  | ty h n => exact ⟨_, looks_ty (h.is I ry), n⟩
  | ins h n =>
    cases (show v = Value.ref _ from ry)
    obtain ⟨mB, J, _⟩ := ins_get I.hok h
    obtain ⟨od, J, _⟩ := J.look
    exact ⟨_, J.type, n⟩
theorem non_declines {prog : Program} {w : World} {A : Around} {E : Value → Shared → Prop} {s : Shared} (x : Addr) : wpAny (model prog w) A (tryCompare .none "__eq__" (.ref x)) (fun r s' => r = none ∧ s' = s) E s :=
  wpAny_tryCompare_declines (show s.TypeIs .none "NoneType" from rfl) F.slot_NoneType_eq_refl (call_gives F.slot_NoneType_eq_refl rfl F.entry_NoneType_eq (F.args_NoneType_eq_2 _ _) (PySem.SeqAt.NoneType___eq___none_ref_0 x) ⟨rfl, rfl, rfl⟩)
theorem dict_declines {prog : Program} {w : World} {A : Around} {E : Value → Shared → Prop} {s : Shared} {K : PySem.W.Frag} {d x C : Addr} {ox : Obj} {od : Option Obj} (hT : s.TypeIs (.ref d) "dict") (X : K.In s.heap) (I : PySem.W.InstAt s.heap x ox C od) (hsub : PySem.W.subIn K (.ref C) (.type "dict") = some false) :
    wpAny (model prog w) A (tryCompare (.ref d) "__eq__" (.ref x)) (fun r s' => r = none ∧ s' = s) E s := by
  refine wpAny_tryCompare_declines hT PySem.F.slot_dict_eq_refl (wpAny_call (codeAny_call_builtin PySem.F.slot_dict_eq_refl.plain PySem.F.entry_dict_eq (PySem.F.slot_dict_eq_refl.check _ _ _ _ _ _ _ _ hT (PySem.F.args_dict_eq_2 _ _) ?_)))
  show wpAny _ _ (Builtin.Dict.dictSlotArgs "__eq__" ⟨[.ref d, .ref x], []⟩ >>= _) _ _ s
  refine wpAny_bind ?_
  unfold Builtin.Dict.dictSlotArgs
  refine wpAny_bind (wpAny_notOrdered_dict hT ?_)
  show wpAny _ _ (pure (Value.ref d, Value.ref x)) _ _ s
  refine wpAny_pure ?_
  unfold isInstance
  refine wpAny_bind (wpAny_bind (I.type.here ((PySem.W.looks_subIn X hsub).here ?_)))
  simp only [Bool.not_false, if_true]
  refine wpAny_bind (wpAny_rule (wpAny_bind (wpAny_pure (wpAny_pure ?_))))
  first
    | exact ⟨trivial, rfl, rfl⟩
    | exact ⟨trivial, trivial, rfl⟩
    | exact ⟨trivial, rfl⟩
    | simp
section
variable {X : Cx} {CX : CXT} {C f : Addr} {fd : FuncData} {ps : List Str} {n : Nat} {sp : Sp} {E : XK}
theorem own_call (F : FnOk X.prog X.w X.K X.mg X.base CX n f fd ps sp) (hb : L2.Binds X.K fd ps []) (hx : Passes CX X E) {A : Around} (hr : Room n A) (hfr : A.frames = X.A.frames)
    {pins : List (Addr × Obj)} {s : Shared} {σ : L2.St} {H : Hp} {x y : V} {u v : Value} {R : V → Hp → Prop} (I : L2.Inv X pins σ H s) (rx : L2.RelV x u) (ry : L2.RelV y v) (hsp : sp [x, y] H R E) :
    wpAny (model X.prog X.w) A (call (.ref f) [u, v]) (fun w s' => ∃ z H', L2.RelV z w ∧ L2.Inv X pins σ H' s' ∧ R z H') X.xe s := by
  have e0 : Env0 X.prog X.w X.K X.mg X.base A X.stack s H := by
    have e := I.env0
    exact ⟨by rw [hfr]; exact e.frames, e.mod, e.bs, e.bsz, e.funs, e.frf, e.hok, e.bare⟩
  have hl := F.len _ _ _ _ hsp
  have r2 : L2.Vals [x, y] [u, v] := .cons rx (.cons ry .nil)
  refine wpAny_call (codeAny_mono (F.run A X.stack s H ⟨[u, v], []⟩ [u, v] [x, y] R E hr e0 (by
    have := hb s [u, v] I.kIn (by simpa using hl)
    simpa using this) r2 hsp) fun r s' hq => ?_)
  cases r with
  | error e => exact hx pins σ H s e s' I hq
  | ok fl =>
    cases fl with
    | ret w =>
      obtain ⟨z, H', I', rz, q⟩ := I.after hq
      exact ⟨z, H', rz, I', q⟩
    | next => exact False.elim hq
    | brk => exact False.elim hq
    | cont => exact False.elim hq
/-- the reading of x == y: the own def tells a truth -/
def rOwn (K : PySem.W.Frag) (C : Addr) (sp : Sp) (E : XK) (neg : Bool) : R2 := fun x y H Q => ∃ a dx fs, x = .ref a ∧ H a = some (.ins C dx fs) ∧ Oth K H C y ∧ sp [x, y] H (fun v H' => ∃ b : Bool, v = .bl b ∧ Q (.bl (if neg then !b else b)) H') E
theorem op_eqOwn (F : FnOk X.prog X.w X.K X.mg X.base CX n f fd ps sp) (hs : PySem.W.findIn X.K (.ref C) "__eq__" = some (some (.ref f))) (hf : PySem.W.isFn X.K (.ref f) = true) (hb : L2.Binds X.K fd ps []) (hx : Passes CX X E) (hr : Room n X.A) :
    OpR X (compareOp .Eq) (rOwn X.K C sp E false) := by
  intro pins s σ H x y u v Q I rx ry ⟨a, dx, fs, ex, ha, ho, hsp⟩
  subst ex
  cases (show u = Value.ref a from rx)
  obtain ⟨mA, J, _⟩ := ins_get I.hok ha
  obtain ⟨od, J, _⟩ := J.look
  obtain ⟨m, hF⟩ := I.fr
  obtain ⟨tb, L, hn⟩ := ho.looks I ry
  show wpAny (model X.prog X.w) X.A (richCompare .Eq (.ref a) v) (EP X pins σ Q) X.xe s
  refine PySem.W.cmp_K (op := .Eq) (tb := tb) hr.units0 hF I.ok.mod.kin J L hn hs hf ?_
  refine wpAny_mono (own_call F hb hx hr rfl I (x := .ref a) rfl ry hsp) (fun w s' h => ?_) fun _ _ h => h
  obtain ⟨z, H', rz, I', b, ez, q⟩ := h
  subst ez
  cases (show w = Value.bool b from rz)
  exact ⟨.bl b, H', I', rfl, q⟩
set_option maxHeartbeats 200000 in
theorem entry_ne {prog : Program} {w : World} {A : Around} {E : Value → Shared → Prop} {s : Shared} {K : PySem.W.Frag} {x C f : Addr} {ox : Obj} {od : Option Obj} {b : Value} {Q : Fin → Shared → Prop} (hu : A.units < cLine) (X : K.In s.heap) (I : PySem.W.InstAt s.heap x ox C od)
    (hs : PySem.W.findIn K (.ref C) "__eq__" = some (some (.ref f))) (hf : PySem.W.isFn K (.ref f) = true) (h : wpAny (model prog w) A (call (.ref f) [.ref x, b]) (fun r s' => ∃ c, r = .bool c ∧ Q (.done (.ret (.bool (!c)))) s') E s) :
    wpAny (model prog w) A (Builtin.«object.__ne__» ⟨[.ref x, b], []⟩) Q E s := by
  unfold Builtin.«object.__ne__»
  refine wpAny_bind (wpAny_pure ?_)
  refine wpAny_bind (wpAny_cRoomFor hu ?_)
  refine wpAny_bind (PySem.W.ifBound_K X I hs hf (wpAny_mono h (fun r s' hr => ?_) fun _ _ e => e))
  obtain ⟨c, rfl, q⟩ := hr
  refine wpAny_bind (wpAny_truthy_bool ?_)
  exact wpAny_pure q
theorem ifBound_objNe {M : Model} {A : Around} {E : Value → Shared → Prop} {s : Shared} {K : PySem.W.Frag} {x C : Addr} {ox : Obj} {od : Option Obj} {args : List Value} {Q : Option Value → Shared → Prop} (X : K.In s.heap) (I : PySem.W.InstAt s.heap x ox C od) (hs : PySem.W.findIn K (.ref C) "__ne__" = some (some (.builtin "object.__ne__")))
    (h : wpAny M A (call (.builtin "object.__ne__") (.ref x :: args)) (fun v => Q (some v)) E s) : wpAny M A (callSpecialIfBound? (.ref x) "__ne__" args) Q E s := by
  simp only [callSpecialIfBound?, bindSpecialIfBound?]
  refine wpAny_holding (wpAny_bind (wpAny_bind (wpAny_bind (I.type.here ((PySem.W.looks_findIn X hs).here ?_)))))
  refine wpAny_bind (wpAny_askSetting (wpAny_ite ?_))
  have fin : wpAny M A (call (.builtin "object.__ne__") ([.ref x] ++ args) >>= fun v => pure (some v)) Q E s := wpAny_bind (wpAny_mono h (fun v s' h' => wpAny_pure h') fun _ _ h' => h')
  split
  · exact wpAny_bind (wpAny_of_eq (F.cmp_object.ne.bind _) (wpAny_pure (by exact fin)))
  · exact wpAny_tryCatch (wpAny_bind (wpAny_of_eq (F.cmp_object.ne.bind _) (wpAny_pure (by exact fin))))
theorem rc_ne {prog : Program} {w : World} {A : Around} {E : Value → Shared → Prop} {s : Shared} {K : PySem.W.Frag} {x C f : Addr} {ox : Obj} {od : Option Obj} {b tb : Value} {Q : Value → Shared → Prop} (hu : A.units + 1 < cLine) (X : K.In s.heap) (I : PySem.W.InstAt s.heap x ox C od)
    (hb : PySem.W.Looks (model prog w) s.heap (typeOf b) tb) (hn : PySem.W.notFirst K C tb = true) (hm : PySem.W.mroIn K C (.type "object") = some true) (hne : PySem.W.findIn K (.ref C) "__ne__" = some (some (.builtin "object.__ne__")))
    (hs : PySem.W.findIn K (.ref C) "__eq__" = some (some (.ref f))) (hf : PySem.W.isFn K (.ref f) = true) (h : wpAny (model prog w) A.in1 (call (.ref f) [.ref x, b]) (fun r s' => ∃ c, r = .bool c ∧ Q (.bool (!c)) s') E s) :
    wpAny (model prog w) A (richCompare .NotEq (.ref x) b) Q E s := by
  have one : wpAny (model prog w) A (tryCompare (.ref x) "__ne__" b) (fun r s' => ∃ v, r = some v ∧ Q v s') E s := by
    unfold tryCompare
    refine wpAny_bind (ifBound_objNe X I hne (wpAny_call (codeAny_call_builtin F.cmp_object.ne.plain F.cmpEntry_ne (PySem.W.check_slot F.cmpKind_ne F.cmpSplit_ne (I.type.andThen (PySem.W.looks_mroIn X hm)) (F.cmpArgs_ne _ _)
      (entry_ne (by show A.units + 1 < cLine; exact hu) X I hs hf (wpAny_mono h (fun r s' hr => ?_) fun _ _ e => e))))))
    obtain ⟨c, rfl, q⟩ := hr
    exact ⟨c, rfl, wpAny_pure ⟨_, rfl, q⟩⟩
  unfold richCompare
  simp only [oneThing_ref]
  refine wpAny_holding (wpAny_bind (wpAny_cRoomFor (by omega) ?_))
  refine wpAny_bind (I.type.here (wpAny_bind (hb.here ?_)))
  split
  · rename_i q
    have e : PySem.W.subIn K tb (.ref C) = some false := by
      rcases Bool.or_eq_true_iff.mp hn with e | e
      · rw [beq_iff_eq.mp e] at q; simp at q
      · exact beq_iff_eq.mp e
    refine wpAny_bind ((PySem.W.looks_subIn X e).here ?_)
    simp only [Bool.false_eq_true, if_false]
    refine wpAny_bind (wpAny_mono one (fun r s' z => ?_) fun _ _ e => e)
    obtain ⟨v, rfl, hq⟩ := z
    exact wpAny_pure hq
  · refine wpAny_bind (wpAny_pure ?_)
    simp only [Bool.false_eq_true, if_false]
    refine wpAny_bind (wpAny_mono one (fun r s' z => ?_) fun _ _ e => e)
    obtain ⟨v, rfl, hq⟩ := z
    exact wpAny_pure hq
theorem op_neOwn (F : FnOk X.prog X.w X.K X.mg X.base CX n f fd ps sp) (hne : PySem.W.findIn X.K (.ref C) "__ne__" = some (some (.builtin "object.__ne__"))) (hm : PySem.W.mroIn X.K C (.type "object") = some true)
    (hs : PySem.W.findIn X.K (.ref C) "__eq__" = some (some (.ref f))) (hf : PySem.W.isFn X.K (.ref f) = true) (hb : L2.Binds X.K fd ps []) (hx : Passes CX X E) (hr : Room (n + 1) X.A) :
    OpR X (compareOp .NotEq) (rOwn X.K C sp E true) := by
  intro pins s σ H x y u v Q I rx ry ⟨a, dx, fs, ex, ha, ho, hsp⟩
  subst ex
  cases (show u = Value.ref a from rx)
  obtain ⟨mA, J, _⟩ := ins_get I.hok ha
  obtain ⟨od, J, _⟩ := J.look
  obtain ⟨tb, L, hn⟩ := ho.looks I ry
  show wpAny (model X.prog X.w) X.A (richCompare .NotEq (.ref a) v) (EP X pins σ Q) X.xe s
  have un := hr.un
  refine rc_ne (by omega) I.kIn J L hn hm hne hs hf ?_
  refine wpAny_mono (own_call F hb hx hr.in1 rfl I (x := .ref a) rfl ry hsp) (fun w s' h => ?_) fun _ _ h => h
  obtain ⟨z, H', rz, I', b, ez, q⟩ := h
  subst ez
  cases (show w = Value.bool b from rz)
  exact ⟨b, rfl, .bl (!b), H', I', rfl, q⟩
/-- what is built in on the left declines, then the own == is asked -/
theorem rc_left {prog : Program} {w : World} {A : Around} {E : Value → Shared → Prop} {s : Shared} {K : PySem.W.Frag} {x C f : Addr} {ox : Obj} {od : Option Obj} {a : Value} {T : String} {Q : Value → Shared → Prop} (hu : A.units < cLine) (X : K.In s.heap) (I : PySem.W.InstAt s.heap x ox C od)
    (hT : s.TypeIs a T) (hsub : PySem.W.subIn K (.ref C) (.type T) = some false) (ho : oneThing? .Eq a (.ref x) = none)
    (one : wpAny (model prog w) A (tryCompare a "__eq__" (.ref x)) (fun r s' => r = none ∧ s' = s) E s)
    (hs : PySem.W.findIn K (.ref C) "__eq__" = some (some (.ref f))) (hf : PySem.W.isFn K (.ref f) = true) (h : wpAny (model prog w) A (call (.ref f) [.ref x, a]) (fun r s' => ∃ c, r = .bool c ∧ Q (.bool c) s') E s) :
    wpAny (model prog w) A (richCompare .Eq a (.ref x)) Q E s := by
  have two : wpAny (model prog w) A (tryCompare (.ref x) "__eq__" a) (fun r s' => ∃ v, r = some v ∧ Q v s') E s := by
    unfold tryCompare
    refine wpAny_bind (PySem.W.ifBound_K X I hs hf (wpAny_mono h (fun v s' hv => ?_) fun _ _ e => e))
    obtain ⟨c, rfl, q⟩ := hv
    exact wpAny_pure ⟨_, rfl, q⟩
  simp only [richCompare, cmpInfo_Eq, ho]
  refine wpAny_holding (wpAny_bind (wpAny_cRoomFor hu ?_))
  refine wpAny_bind (wpAny_typeOf hT ?_)
  refine wpAny_bind (I.type.here ?_)
  split
  · refine wpAny_bind ((PySem.W.looks_subIn X hsub).here ?_)
    simp only [Bool.false_eq_true, if_false, Bool.not_false, if_true]
    refine wpAny_bind (m := tryCompare a _ (.ref x)) (wpAny_mono one (fun r s1 z => ?_) fun _ _ e => e)
    obtain ⟨z1, z2⟩ := z
    subst z1
    subst z2
    refine wpAny_bind (m := tryCompare (.ref x) _ a) (wpAny_mono two (fun r s2 z => ?_) fun _ _ e => e)
    obtain ⟨v, rfl, q⟩ := z
    exact wpAny_pure q
  · rename_i q
    exact absurd (by simp) q
/-- None == x -/
def rNonL (C : Addr) (sp : Sp) (E : XK) : R2 := fun x y H Q => x = .non ∧ ∃ a dx fs, y = .ref a ∧ H a = some (.ins C dx fs) ∧ sp [y, .non] H (fun v H' => ∃ b : Bool, v = .bl b ∧ Q (.bl b) H') E
theorem op_eqNonL (F : FnOk X.prog X.w X.K X.mg X.base CX n f fd ps sp) (hsub : PySem.W.subIn X.K (.ref C) (.type "NoneType") = some false)
    (hs : PySem.W.findIn X.K (.ref C) "__eq__" = some (some (.ref f))) (hf : PySem.W.isFn X.K (.ref f) = true) (hb : L2.Binds X.K fd ps []) (hx : Passes CX X E) (hr : Room n X.A) :
    OpR X (compareOp .Eq) (rNonL C sp E) := by
  intro pins s σ H x y u v Q I rx ry ⟨ex, a, dx, fs, ey, ha, hsp⟩
  subst ex
  subst ey
  cases (show u = Value.none from rx)
  cases (show v = Value.ref a from ry)
  obtain ⟨mA, J, _⟩ := ins_get I.hok ha
  obtain ⟨od, J, _⟩ := J.look
  show wpAny (model X.prog X.w) X.A (richCompare .Eq .none (.ref a)) (EP X pins σ Q) X.xe s
  refine rc_left hr.units0 I.kIn J (show s.TypeIs .none "NoneType" from rfl) hsub rfl (non_declines a) hs hf ?_
  refine wpAny_mono (own_call F hb hx hr rfl I (x := .ref a) (y := .non) rfl rfl hsp) (fun w s' h => ?_) fun _ _ h => h
  obtain ⟨z, H', rz, I', b, ez, q⟩ := h
  subst ez
  cases (show w = Value.bool b from rz)
  exact ⟨b, rfl, .bl b, H', I', rfl, q⟩
/-- {..} == x -/
def rDctL (C : Addr) (sp : Sp) (E : XK) : R2 := fun x y H Q => ∃ d kvs a dx fs, x = .ref d ∧ H d = some (.dK kvs) ∧ y = .ref a ∧ H a = some (.ins C dx fs) ∧ sp [y, x] H (fun v H' => ∃ b : Bool, v = .bl b ∧ Q (.bl b) H') E
theorem op_eqDctL (F : FnOk X.prog X.w X.K X.mg X.base CX n f fd ps sp) (hsub : PySem.W.subIn X.K (.ref C) (.type "dict") = some false)
    (hs : PySem.W.findIn X.K (.ref C) "__eq__" = some (some (.ref f))) (hf : PySem.W.isFn X.K (.ref f) = true) (hb : L2.Binds X.K fd ps []) (hx : Passes CX X E) (hr : Room n X.A) :
    OpR X (compareOp .Eq) (rDctL C sp E) := by
  intro pins s σ H x y u v Q I rx ry ⟨d, kvs, a, dx, fs, ex, hd, ey, ha, hsp⟩
  subst ex
  subst ey
  cases (show u = Value.ref d from rx)
  cases (show v = Value.ref a from ry)
  obtain ⟨mA, J, _⟩ := ins_get I.hok ha
  obtain ⟨od, J, _⟩ := J.look
  show wpAny (model X.prog X.w) X.A (richCompare .Eq (.ref d) (.ref a)) (EP X pins σ Q) X.xe s
  have hT : s.TypeIs (.ref d) "dict" := TyB.is I (x := .ref d) rfl (.dK hd)
  refine rc_left hr.units0 I.kIn J hT hsub rfl (dict_declines hT I.kIn J hsub) hs hf ?_
  refine wpAny_mono (own_call F hb hx hr rfl I (x := .ref a) (y := .ref d) rfl rfl hsp) (fun w s' h => ?_) fun _ _ h => h
  obtain ⟨z, H', rz, I', b, ez, q⟩ := h
  subst ez
  cases (show w = Value.bool b from rz)
  exact ⟨b, rfl, .bl b, H', I', rfl, q⟩
end
/-! ### dicts of flat things: == of any answer -/
def eqKv (ks ls : List (Key × V)) : Bool := ks.all fun p => match valV ls p.1 with | some u => eqV p.2 u | none => false
theorem hits_flat {P : Program} {w : World} {A : Around} {s : Shared} {ls : List (Key × V)} {vb : List (Key × Value)} (rb : KV ls vb) (fl : ∀ k u, valV ls k = some u → flatV u = true) {ks : List (Key × V)} {va : List (Key × Value)}
    (ra : KV ks va) : (∀ p ∈ ks, flatV p.2 = true) → PySem.W.KeqHitsP P w A s vb va (eqKv ks ls) := by
  unfold KV at ra
  induction ra with
  | nil => intro _; exact .nil
  | @cons p q ps qs h t k =>
    intro hp
    obtain ⟨h1, h2⟩ := h
    have rr : RelO (valV ls p.1) (valueAt vb p.1) := rb.val p.1
    obtain ⟨key, v⟩ := q
    have h1' : p.1 = key := h1
    have rest := k fun p' hm => hp p' (List.mem_cons_of_mem _ hm)
    cases e : valV ls p.1 with
    | none =>
      rw [e] at rr
      have hn : valueAt vb key = none := by
        rw [← h1']
        cases hv : valueAt vb p.1 with
        | none => rfl
        | some z => rw [hv] at rr; exact rr.elim
      have hb : eqKv (p :: ps) ls = false := by unfold eqKv; rw [List.all_cons, e]; rfl
      rw [hb]
      exact .miss hn
    | some u =>
      rw [e] at rr
      obtain ⟨y, hy, ry⟩ := rr.some_of
      rw [h1'] at hy
      have hb : eqKv (p :: ps) ls = (eqV p.2 u && eqKv ps ls) := by unfold eqKv; rw [List.all_cons, e]
      rw [hb]
      exact .hit hy (eqAt_V h2 ry (hp p List.mem_cons_self) (fl _ _ e)).eqP rest
/-- the reading of a == b -/
def rEqDF : R2 := fun x y H Q => ∃ a b ks ls, x = .ref a ∧ y = .ref b ∧ H a = some (.dK ks) ∧ H b = some (.dK ls) ∧ (∀ p ∈ ks, flatV p.2 = true) ∧ (∀ k u, valV ls k = some u → flatV u = true) ∧ Q (.bl (ks.length == ls.length && eqKv ks ls)) H
theorem op_eqDF {X : Cx} (hu : X.A.units + 64 < cLine) : OpR X (compareOp .Eq) rEqDF := by
  intro pins s σ H x y v u Q I rx ry ⟨a, b, ks, ls, ex, ey, ha, hb, f1, f2, q⟩
  subst ex
  subst ey
  cases (show v = Value.ref a from rx)
  cases (show u = Value.ref b from ry)
  obtain ⟨_, ya, va, ra, da⟩ := (show ObjOk X.prog X.w H s.heap a (.dK ks) from I.hok a _ ha)
  obtain ⟨_, yb, vb, rb, db⟩ := (show ObjOk X.prog X.w H s.heap b (.dK ls) from I.hok b _ hb)
  have la : ks.length = va.length := by unfold KV at ra; exact ra.length
  have lb : ls.length = vb.length := by unfold KV at rb; exact rb.length
  refine PySem.W.rcP_dicts (knd := mixKind X.prog X.w) (r := eqKv ks ls) ya yb da db (by omega) (fun _ => hits_flat rb f2 ra f1) _ _ ?_
  rw [← la, ← lb]
  exact ⟨.bl _, H, I, rfl, q⟩
/-! ### list(d.values()) -/
theorem paired_ix {α β : Type} {R : α → β → Prop} : ∀ {xs : List α} {ys : List β}, xs.length = ys.length → (∀ (i : Nat) (y : β), ys[i]? = some y → ∃ x, xs[i]? = some x ∧ R x y) → Paired R xs ys
  | [], [], _, _ => .nil
  | x :: xs, y :: ys, h, k => by
    obtain ⟨x', e, r⟩ := k 0 y rfl
    cases e
    exact .cons r (paired_ix (Nat.succ.inj h) fun i z hz => k (i + 1) z hz)
  | [], _ :: _, h, _ => nomatch h
  | _ :: _, [], h, _ => nomatch h
def tListVals (td : TE) : TE := fun σ H Q => td σ H fun x H1 => ∃ a kvs, x = V.ref a ∧ H1 a = some (.dK kvs) ∧ ∀ p, H1 p = none → Q (.ref p) (upd H1 p (.lst (kvs.map (·.2))))
theorem pe_listVals {X : Cx} {o : Expr} {td : TE} {p pos apos mpos : Pos} (hc : X.calm = true) (hg : Gl X "list") (hm : X.mg "list" = none) (hd : PE X o td) (hbase : attributeBase o "values" X.env (eval o X.env) = eval o X.env := by rfl) (hline : (apos.endLine == mpos.line) = true := by rfl)
    (hse : starEach [Expr.Call (.Attribute o "values" apos) [] [] mpos] X.env = [(false, eval (Expr.Call (.Attribute o "values" apos) [] [] mpos) X.env)] := by rfl) :
    PE X (.Call (.Name "list" p) [.Call (.Attribute o "values" apos) [] [] mpos] [] pos) (tListVals td) := by
  refine ⟨fun pins s σ H Q I h => ?_⟩
  refine wpAny_Call_Name_kw (ld_blt I hg hm (u := .type "list") (by first | rfl | decide +kernel) ?_ (by first | decide +kernel | decide) (by first | decide +kernel | decide))
  rw [hse]
  refine PySem.callWith_type1 (wpAny_Call_method0_late hbase hline (thn (hd.run pins s σ H _ I h) fun v s1 ⟨x, H1, I1, r1, a, kvs, ex, ha, q⟩ => ?_))
  subst ex
  obtain rfl : v = Value.ref a := r1
  obtain ⟨hz, hsys, vs, rel, dof⟩ := dk_of I1.hok ha
  obtain ⟨ep, dat⟩ := dof.dictAt
  have dat' := dat
  obtain ⟨ob, es, ho, ex, hdat, hko, hpr, hnd⟩ := dat'
  refine ⟨"dict", "dict.values", F.plainAttrs_dict, F.slot_dict_values, F.type_dict_values, ⟨ob, ho, ex.1⟩, fun b e => ?_, Calls.callWith_builtin rfl (PySem.evalArgs_none ?_)⟩
  · cases e
    exact ⟨ob, ho, ex.2.1⟩
  refine call_meetsIn F.slot_dict_values ⟨ob, ho, ex.1⟩ F.entry_dict_values (F.args_dict_values_1 _) (meets_dict_values (mixKind X.prog X.w) a hsys) ⟨⟨vs, dof⟩, ?_⟩
  have k1 : ∀ b u, s1.heap.get? b = some u → (s1.heap.push { cls := .type "dict_values", data := .fields #[.ref a] }).get? b = some u := fun b u e => Heap.get?_push_of_some _ e
  have dat1 : (s1.heap.push { cls := .type "dict_values", data := .fields #[.ref a] }).DictAt (mixKind X.prog X.w) a vs ep := dat.keep k1
  have I2 : L2.Inv X pins σ H1 { s1 with heap := s1.heap.push { cls := .type "dict_values", data := .fields #[.ref a] } } := I1.kept (t' := s1.toks) k1
  have hlv : kvs.length = vs.length := by unfold KV at rel; exact rel.length
  refine PySem.W.kdl_call (s := { s1 with heap := s1.heap.push { cls := .type "dict_values", data := .fields #[.ref a] } }) (PySem.W.kdl_values (knd := mixKind X.prog X.w) (kvs := vs) (ep := ep) (r := s1.heap.objs.size) (d := a)) (I.ok.hd hc) ⟨⟨_, Heap.get?_push_size _ rfl, rfl, rfl⟩, dat1⟩ (by rw [← hlv]; exact hz) fun h' tk acc c' hk hD hacc => ?_
  have hv : L2.Vals (kvs.map (·.2)) acc.toList := by
    refine paired_ix (by rw [List.length_map, Array.length_toList]; exact hlv.trans hacc.1.symm) fun i v e => ?_
    obtain ⟨k, hk2⟩ := hacc.2 i v (by rw [← Array.getElem?_toList]; exact e)
    obtain ⟨x, h1, h2⟩ := KV.at' rel hk2
    exact ⟨x, by rw [List.getElem?_map, h1] <;> rfl, h2⟩
  refine ⟨.ref _, upd H1 _ (.lst (kvs.map (·.2))), I2.laid (t' := tk) hk (Nat.le_refl _)
    (show ObjOk X.prog X.w _ _ _ (.lst (kvs.map (·.2))) from ⟨by rw [List.length_map]; exact hz, acc.toList, c', hv, by rw [Array.toArray_toList]; exact hD⟩), rfl, q _ (I2.hok.fresh (Nat.le_refl _))⟩
end Own
set_option Elab.async false
set_option linter.all false
set_option maxRecDepth 100000
set_option maxHeartbeats 2000000
/-! x in d.values(); iter(d); what is walked of an instance whose own __iter__ returns iter(d) -/
namespace Own
open PySem PySem.Spec PyProof.Rows L2
/-! ### d.values() as a value, and x in it -/
def VvO (d v : Addr) : HO := .ext fun h => h.IsValuesView v d
theorem mt_values {X : Cx} : MtR X "dict.values" (fun x vs H Q => ∃ (d : Addr) (kvs : List (Key × V)), x = .ref d ∧ vs = [] ∧ H d = some (.dK kvs) ∧ ∀ v, H v = none → Q (.ref v) (upd H v (VvO d v))) := by
  intro pins s σ H x xs v us Q I rx rv ⟨d, kvs, ex, e0, hd, q⟩
  subst ex
  subst e0
  cases rv
  cases (show v = Value.ref d from rx)
  obtain ⟨hz, hsys, vs, rel, dof⟩ := dk_of I.hok hd
  refine call_meetsIn F.slot_dict_values dof.typeIs F.entry_dict_values (F.args_dict_values_1 _) (meets_dict_values (mixKind X.prog X.w) d hsys) ⟨⟨vs, dof⟩, ?_⟩
  have hg : (s.heap.push { cls := .type "dict_values", data := .fields #[.ref d] }).get? s.heap.objs.size = some { cls := .type "dict_values", data := .fields #[.ref d] } := Heap.get?_push_size _ rfl
  refine ⟨.ref s.heap.objs.size, upd H _ (VvO d _), I.laid (t' := s.toks) (fun b u e => Heap.get?_push_of_some _ e) (Nat.le_refl _) ?_, rfl, q _ (I.hok.fresh (Nat.le_refl _))⟩
  exact ⟨⟨_, hg, rfl, rfl⟩, ⟨_, hg⟩, fun h1 h2 ⟨o, e, r⟩ k => ⟨o, k _ e, r⟩⟩
theorem entry_citer : entryFor table "proto.contains_iter" = some Builtin.«proto.contains_iter» := entryFor_of_fast (by kernel_rfl)
theorem plain_citer : plainId "proto.contains_iter" = true := by decide +kernel
theorem vals_noc : typeLookup (.type "dict_values") "__contains__" = pure none := by rw [typeLookup_type, builtinLookup_eq_fast]; kernel_rfl
section
variable {prog : Program} {w : World} {A : Around} {I : Addr} {fp wr : List Addr} {vs : List Value} {St : Nat → Heap → Prop}
theorem citer_loop {R : Result → Shared → Prop} (W : Walks prog w A.in1 I fp wr vs.length (fun i v => vs[i]? = some v) St) (x : Value) (r : Value → Bool) (heq : ∀ v ∈ vs, ∀ s, SeqAt.EqAt A.in1 s v x (r v)) :
    ∀ (k i : Nat) (s : Shared), vs.length - i = k → i ≤ vs.length → St i s.heap →
    (∀ h' tk, (∀ b o, b ∉ wr → s.heap.get? b = some o → h'.get? b = some o) → R (.ok (.ret (.bool ((vs.drop i).any r)))) { s with heap := h', toks := tk }) →
    codeAny (model prog w) A (.builtin "proto.contains_iter" ⟨[.ref I, x], []⟩) R s := by
  intro k
  induction k with
  | zero =>
    intro i s hk hi hst hR
    have e : i = vs.length := by omega
    subst e
    refine codeAny_builtin entry_citer ?_
    rw [Around.under_plainId plain_citer _]
    show wpAny _ A.in1 (pyNext (.ref I) >>= _) _ _ s
    refine wpAny_bind (W.done s _ _ hst fun h' tk hm => ?_)
    have q := hR h' tk hm
    rw [List.drop_length] at q
    exact wpAny_bind (wpAny_rule (wpAny_pure q))
  | succ k ih =>
    intro i s hk hi hst hR
    have hlt : i < vs.length := by omega
    refine codeAny_builtin entry_citer ?_
    rw [Around.under_plainId plain_citer _]
    show wpAny _ A.in1 (pyNext (.ref I) >>= _) _ _ s
    refine wpAny_bind (W.item i s _ _ hlt hst fun v h' tk hP hst' hm => ?_)
    have hv : vs[i] = v := by rw [List.getElem?_eq_getElem hlt] at hP; exact Option.some.inj hP
    show wpAny _ A.in1 (eqBool v x >>= _) _ _ _
    refine wpAny_bind (heq v (List.mem_of_getElem? hP) _ _ _ _ _ ?_)
    have ed : (vs.drop i).any r = (r v || (vs.drop (i + 1)).any r) := by rw [List.drop_eq_getElem_cons hlt, List.any_cons, hv]
    cases hr : r v with
    | true =>
      rw [ed, hr, Bool.true_or] at hR
      refine wpAny_bind (wpAny_rule (wpAny_pure (hR h' tk hm)))
    | false =>
      rw [ed, hr, Bool.false_or] at hR
      exact wpAny_pure ⟨plainId_quiet plain_citer _, ih (i + 1) { s with heap := h', toks := tk } (by omega) hlt hst' fun h2 tk2 hm2 => hR h2 tk2 fun b o nb e => hm2 b o nb (hm b o nb e)⟩
end
def rInVals (K : PySem.W.Frag) : R2 := fun x y H Q => ∃ v d kvs, y = .ref v ∧ H v = some (VvO d v) ∧ Rd H d (.dK kvs) ∧ flatV x = true ∧ (kvs.map (·.2)).all flatV = true ∧ Q (.bl (inV x (kvs.map (·.2)))) H
theorem op_inVals {X : Cx} (hc : X.calm = true) : OpR X (compareOp .In) (rInVals X.K) := by
  intro pins s σ H x y v u Q I rx ry ⟨va, d, kvs, ey, hv, hd, fx, fs, q⟩
  subst ey
  cases (show u = Value.ref va from ry)
  have view : s.heap.IsValuesView va d := (show ObjOk X.prog X.w H s.heap va (VvO d va) from I.hok va _ hv).1
  obtain ⟨hz, hsys, vs, rel, dof⟩ := dk_rd I.hok hd
  obtain ⟨ep, dat⟩ := dof.dictAt
  have hT := view.typeIs
  have hlv : kvs.length = vs.length := by unfold KV at rel; exact rel.length
  have hvals : Vals (kvs.map (·.2)) (vs.map (·.2)) := paired_ix (by rw [List.length_map, List.length_map]; exact hlv) fun i z e => by
    rw [List.getElem?_map] at e
    cases e2 : vs[i]? with
    | none => rw [e2] at e; cases e
    | some p =>
      rw [e2] at e
      obtain ⟨y, h1, h2⟩ := KV.at' rel (i := i) (k := p.1) (v := p.2) e2
      obtain rfl : p.2 = z := Option.some.inj e
      exact ⟨y, by rw [List.getElem?_map, h1]; rfl, h2⟩
  show wpAny (model X.prog X.w) X.A ((contains (.ref va) v) >>= fun b => pure (Value.bool b)) (EP X pins σ Q) X.xe s
  refine wpAny_bind ?_
  unfold contains
  refine wpAny_holding ?_
  have e0 : stdlibNamesSay? (.ref va) v = none := by
    first | rfl | (cases v <;> rfl)
  simp only [e0]
  refine wpAny_bind (wpAny_specialOf hT vals_noc ?_)
  refine wpAny_ite_split (fun hab => absurd hab (by decide)) (fun _ => ?_)
  unfold callSpecialUnlessNone?
  refine wpAny_bind (wpAny_bind (wpAny_specialOf hT vals_noc ?_))
  refine wpAny_pure ?_
  refine wpAny_bind (wpAny_rule ?_)
  refine wpAny_bind (wpAny_tryCatch (wpAny_pyIter_values (knd := mixKind X.prog X.w) view dat ?_))
  have kp : ∀ b o, s.heap.get? b = some o → (s.heap.push { cls := .type "dict_valueiterator", data := .fields #[.ref d, .int 0 0, .int vs.length 0, .int ep 0] }).get? b = some o := fun b o e => Heap.get?_push_of_some _ e
  have hit : (s.heap.push { cls := .type "dict_valueiterator", data := .fields #[.ref d, .int 0 0, .int vs.length 0, .int ep 0] }).IsValIter s.heap.objs.size d 0 vs.length ep := ⟨_, Heap.get?_push_size _ rfl, rfl, rfl⟩
  have ne : d ≠ s.heap.objs.size := Nat.ne_of_lt dat.lt_size
  have W := Walks.dictValues (prog := X.prog) (w := X.w) (A := X.A.in1.in1) (knd := mixKind X.prog X.w) (I.ok.hd hc) s.heap.objs.size d ne vs ep
  have ln : (vs.map (·.2)).length = vs.length := List.length_map ..
  have W2 : Walks X.prog X.w X.A.in1 s.heap.objs.size [s.heap.objs.size, d] [s.heap.objs.size] (vs.map (·.2)).length (fun i v => (vs.map (·.2))[i]? = some v) (fun i h => h.IsValIter s.heap.objs.size d i vs.length ep ∧ h.DictAt (mixKind X.prog X.w) d vs ep) :=
    ⟨W.of_in1.sub, W.of_in1.frame, fun i s Q E hi st hQ => W.of_in1.item i s Q E (by rw [ln] at hi; exact hi) st fun z h' tk hP => hQ z h' tk (by
      obtain ⟨k, e⟩ := hP
      rw [List.getElem?_map, e]
      rfl), fun s Q E st hQ => W.of_in1.done s Q E (by rw [ln] at st; exact st) hQ, W.of_in1.self⟩
  refine wpAny_bind (wpAny_runValue (citer_loop W2 v (eqU x) (fun z hz s' => mem_eqAt rx ‹_› hvals fs z hz) _ 0 { s with heap := _ } rfl (Nat.zero_le _) ⟨hit, dat.push _⟩ fun h' tk hm => ?_))
  have kp2 : ∀ b o, s.heap.get? b = some o → h'.get? b = some o := fun b o e => hm b o (fun z => by
    rw [List.mem_singleton.mp z] at e
    exact Nat.lt_irrefl _ (Heap.lt_size e)) (kp b o e)
  have fin : wpAny (model X.prog X.w) X.A (pure (Value.bool (inV x (kvs.map (·.2))))) (EP X pins σ Q) X.xe { s with heap := h', toks := tk } := wpAny_pure ⟨.bl _, H, I.kept (t' := tk) kp2, rfl, q⟩
  rw [List.drop_zero, any_eqU hvals fs]
  exact wpAny_pure fin
theorem inValsOf {X : Cx} {K : PySem.W.Frag} (h : X.K = K) (hc : X.calm = true) : OpR X (compareOp .In) (rInVals K) := h ▸ op_inVals hc
theorem bm0Of {X : Cx} {K : PySem.W.Frag} (h : X.K = K) {T id : String} {name : Str} {o : Expr} {to : TE} {r : V → List V → Hp → VK → Prop} {apos cpos : Pos} (pa : PlainAttrs T) (slot : Slot T name id) (hty : typeOf (.builtin id) = pure (.type "method_descriptor")) (hm : MtR X id r) (ho : PE X o to)
    (hbase : attributeBase o name X.env (eval o X.env) = eval o X.env := by rfl) (hline : (apos.endLine == cpos.line) = true := by rfl) : PE X (.Call (.Attribute o name apos) [] [] cpos) (tBM0 K T r to) := h ▸ pe_bm0 pa slot hty hm ho hbase hline
end Own
set_option Elab.async false
set_option linter.all false
set_option maxRecDepth 100000
set_option maxHeartbeats 2000000
/-! iter(d); what is walked of an instance whose own __iter__ returns iter(d) -/
namespace Own
open PySem PySem.Spec PyProof.Rows L2
/-! ### a base as large as the heap of a call -/
def padTo (h : Heap) (n : Nat) : Heap := { h with objs := h.objs ++ Array.replicate (n - h.objs.size) { cls := .none, data := .freed } }
theorem padTo_get {h : Heap} {n : Nat} {b : Addr} : (padTo h n).get? b = h.get? b := by
  unfold padTo Heap.get?
  rcases Nat.lt_or_ge b h.objs.size with lt | ge
  · rw [Array.getElem?_append_left lt]
  · rw [Array.getElem?_append_right ge, Array.getElem?_eq_none ge]
    rcases Nat.lt_or_ge (b - h.objs.size) (n - h.objs.size) with l2 | g2
    · rw [Array.getElem?_replicate, if_pos l2]
    · rw [Array.getElem?_replicate, if_neg (Nat.not_lt.mpr g2)]
theorem padTo_size {h : Heap} {n : Nat} (hn : h.objs.size ≤ n) : (padTo h n).objs.size = n := by
  unfold padTo
  simp only [Array.size_append, Array.size_replicate]
  omega
theorem padTo_ns {h : Heap} {n : Nat} {a : Addr} {m : Str → Option Value} (x : h.Ns a m) : (padTo h n).Ns a m := x.keeps fun b o e => padTo_get.trans e
theorem padTo_mod {K : PySem.W.Frag} {mg : Str → Option Value} {h : Heap} {n : Nat} (M : Mod K mg h) : Mod K mg (padTo h n) :=
  ⟨M.kin.keeps fun b o e => padTo_get.trans e, padTo_ns M.glob, M.blt.imp fun mb z => ⟨padTo_ns z.1, z.2⟩, M.nolimit.imp fun mc z => ⟨padTo_ns z.1, z.2⟩⟩
theorem padTo_frames {h base : Heap} {n : Nat} : ∀ {l : List Env}, h.FunFrames base l → h.FunFrames (padTo base n) l
  | [], _ => trivial
  | env :: rest, ⟨hk, ⟨L, o, hf, hn, ho, hd⟩, hr⟩ => ⟨hk, ⟨L, o, hf, padTo_get.trans hn, ho, hd⟩, padTo_frames hr⟩
section
variable {X : Cx} {pins : List (Addr × Obj)} {σ : L2.St} {H : Hp} {s : Shared}
theorem env_pad {A1 : Around} (hf : A1.frames = X.A.frames) (I : L2.Inv X pins σ H s) : Env0 X.prog X.w X.K X.mg (padTo X.base s.heap.objs.size) A1 X.stack s H := by
  have e := I.env0
  exact ⟨hf.trans e.frames, padTo_mod e.mod, fun b o z => e.bs b o (padTo_get.symm.trans z), by rw [padTo_size e.bsz]; exact Nat.le_refl _, padTo_frames e.funs, e.frf, e.hok, e.bare⟩
end
/-! ### iter(d) -/
def KiO (d : Addr) (od : Obj) (it : Addr) : HO := .ext fun h => ∃ es ep, od.data = .dict es ep ∧ h.IsKeyIter it d 0 es.size ep
def rIterD (n : Nat) : List V → Hp → VK → Prop := fun xs H Q => ∃ (d : Addr) (od : Obj) (kvs : List (Key × V)), xs = [.ref d] ∧ H d = some (.frz od (.dK kvs)) ∧ ∀ it, H it = none → n ≤ it → Q (.ref it) (upd H it (KiO d od it))
theorem call_iterD {X : Cx} : CallR X (.builtin "iter") (rIterD X.base.objs.size) := by
  intro pins s σ H xs us Q I r ⟨d, od, kvs, ex, hd, q⟩
  subst ex
  obtain rfl := Vals.ref1 r
  obtain ⟨hs, hgd, hx, es, ep, vs, hdt, hsz, kv, hm⟩ := I.frzK hd
  refine Calls.call_function_entry (by decide +kernel) (by decide +kernel) PySem.W.kdk_entry_iter (PySem.W.kdk_args_iter _) ?_
  unfold Builtin.«iter»
  refine wpAny_bind (m := someArgs "iter" 1 2 _) (wpAny_of_eq (a := [Value.ref d]) (by first | rfl | kernel_rfl!) ?_)
  show wpAny _ _ (pyIter (.ref d) >>= fun z => ret z) _ _ s
  refine wpAny_bind (iter_keys hs hgd hx hdt ?_)
  have hg : (s.heap.push { cls := .type "dict_keyiterator", data := .fields #[.ref d, .int 0 0, .int es.size 0, .int ep 0] }).get? s.heap.objs.size = some { cls := .type "dict_keyiterator", data := .fields #[.ref d, .int 0 0, .int es.size 0, .int ep 0] } := Heap.get?_push_size _ rfl
  refine wpAny_pure ⟨_, rfl, .ref s.heap.objs.size, upd H _ (KiO d od _), I.laid (t' := s.toks) (fun b u e => Heap.get?_push_of_some _ e) (Nat.le_refl _) ?_, rfl, q _ (I.hok.fresh (Nat.le_refl _)) (Nat.le_trans I.ok.bsz I.sz)⟩
  exact ⟨⟨es, ep, hdt, ⟨_, hg, rfl, rfl⟩⟩, ⟨_, hg⟩, fun h1 h2 ⟨es, ep, e, o, e1, r⟩ k => ⟨es, ep, e, o, k _ e1, r⟩⟩
/-- what __iter__ of the own class tells: an iterator over a dict's keys -/
def ItTold (R : It → Hp → Prop) (m : Nat) : VK := fun v H2 => ∃ it d od kvs, v = V.ref it ∧ H2 it = some (KiO d od it) ∧ H2 d = some (.frz od (.dK kvs)) ∧ m ≤ it ∧ R (Itk d od kvs) (ItX.dropH H2 it)
def iOwn (C : Addr) (sp : Nat → Sp) (E : XK) (te : TE) : TI := fun σ H R => te σ H fun x H1 => ∃ a dx fs, x = V.ref a ∧ H1 a = some (.ins C dx fs) ∧ ∀ m, sp m [x] H1 (ItTold R m) E
section
variable {X : Cx} {CX : CXT} {C f : Addr} {fd : FuncData} {ps : List Str} {n : Nat} {sp : Nat → Sp} {E : XK}
theorem own_it (F : ∀ base, FnOk X.prog X.w X.K X.mg base CX n f fd ps (sp base.objs.size)) (hb : L2.Binds X.K fd ps []) (hx : Passes CX X E) {A : Around} (hr : Room n A) (hfr : A.frames = X.A.frames)
    (hs : PySem.W.findIn X.K (.ref C) "__iter__" = some (some (.ref f))) (hf : PySem.W.isFn X.K (.ref f) = true)
    {pins : List (Addr × Obj)} {s : Shared} {σ : L2.St} {H : Hp} {a dx : Addr} {fs : List (Str × V)} {T : Nat → VK} (hT : ∀ m v H2, T m v H2 → ∃ it d od, v = V.ref it ∧ H2 it = some (KiO d od it)) (I : L2.Inv X pins σ H s) (ha : H a = some (.ins C dx fs)) (hsp : ∀ m, sp m [.ref a] H (T m) E) :
    wpAny (model X.prog X.w) A (pyIter (.ref a)) (fun u s' => ∃ it H2, u = .ref it ∧ L2.Inv X pins σ H2 s' ∧ T s.heap.objs.size (.ref it) H2) X.xe s := by
  obtain ⟨mA, J, _⟩ := ins_get I.hok ha
  obtain ⟨od0, J, _⟩ := J.look
  obtain ⟨m, hF⟩ := I.fr
  refine PySem.W.owit_iter hF I.ok.mod.kin J hs hf ?_
  have e0 := env_pad hfr I
  have hsp := hsp (padTo X.base s.heap.objs.size).objs.size
  have F := F (padTo X.base s.heap.objs.size)
  have hl := F.len _ _ _ _ hsp
  have r2 : L2.Vals [V.ref a] [Value.ref a] := .cons rfl .nil
  refine wpAny_call (codeAny_mono (F.run A X.stack s H ⟨[.ref a], []⟩ [.ref a] [.ref a] _ E hr e0 (by
    have := hb s [.ref a] I.kIn (by simpa using hl)
    simpa using this) r2 hsp) fun r s' hq => ?_)
  rw [padTo_size (Nat.le_trans I.ok.bsz I.sz)] at hq
  cases r with
  | error e => exact hx pins σ H s e s' I hq
  | ok fl =>
    cases fl with
    | ret u =>
      obtain ⟨v, H2, I2, rv, ht⟩ := I.after hq
      obtain ⟨it, d, od, ev, h1⟩ := hT _ _ _ ht
      subst ev
      cases (show u = Value.ref it from rv)
      have hk : ∃ es ep, od.data = .dict es ep ∧ s'.heap.IsKeyIter it d 0 es.size ep := (show ObjOk X.prog X.w H2 s'.heap it (KiO d od it) from I2.hok it _ h1).1
      obtain ⟨es, ep, _, hk⟩ := hk
      show PySem.W.OwitIt _ _ _ _ _ _
      unfold PySem.W.OwitIt
      refine wpAny_specialOf hk.typeIs PySem.F.slot_dict_keyiterator_next.lookup ?_
      exact ⟨it, H2, rfl, I2, ht⟩
    | next => exact False.elim hq
    | brk => exact False.elim hq
    | cont => exact False.elim hq
theorem pi_own {tg e : Expr} {te : TE} (F : ∀ base, FnOk X.prog X.w X.K X.mg base CX n f fd ps (sp base.objs.size)) (hb : L2.Binds X.K fd ps []) (hx : Passes CX X E) (hr : Room n X.A)
    (hs : PySem.W.findIn X.K (.ref C) "__iter__" = some (some (.ref f))) (hf : PySem.W.isFn X.K (.ref f) = true) (he : PE X e te) : PI X tg e (iOwn C sp E te) := by
  refine ⟨fun pins s σ H R I h => ?_⟩
  refine thn (he.run pins s σ H _ I h) fun v s1 ⟨x, H1, I1, r1, a, dx, fs, ex, ha, hsp⟩ => ?_
  subst ex
  cases (show v = Value.ref a from r1)
  refine wpAny_mono (own_it F hb hx hr rfl hs hf (fun m v H2 ⟨it, d, od, kvs, e1, e2, _⟩ => ⟨it, d, od, e1, e2⟩) I1 ha hsp) (fun u s2 h2 => ?_) fun _ _ z => z
  obtain ⟨it0, H2, eu, I2, it, d, od, kvs, e0, hi, hd, hz, hR⟩ := h2
  have e9 : it = it0 := by cases e0; rfl
  subst e9
  have hz := Nat.le_trans I1.sz hz
  obtain ⟨es, ep, hod, hk⟩ := (show ObjOk X.prog X.w H2 s2.heap it (KiO d od it) from I2.hok it _ hi).1
  obtain ⟨_, _, _, es2, ep2, vs, hdt, hsz, kv, hm⟩ := I2.frzK hd
  obtain ⟨e1, e2⟩ := dict_ep hod hdt
  subst e1
  rw [hsz] at hk
  refine ⟨it, [it], _, _, _, eu, ItX.inv_drop I2 hi, turn_keys it hod, hk, fun b hb => ?_, hR⟩
  rw [List.mem_singleton.mp hb]
  exact ItX.inv_fp I2 hi hz
/-- the keys fill a list -/
theorem key_loop {pins : List (Addr × Obj)} {σ : L2.St} {A : Around} {Rs : Result → Shared → Prop} {S d it : Addr} {od : Obj} {kvs : List (Key × V)} {ep : Nat} {es : Array DictEntry} (hh : A.handled = none) (hod : od.data = .dict es ep) (hz : kvs.length ≤ sizeLine) (hS : S ≠ it) (hSd : S ≠ d)
    : ∀ (k i : Nat) (H : Hp) (s : Shared), kvs.length - i = k → i ≤ kvs.length → L2.Inv X pins σ H s → FpOk X pins H it → H d = some (.frz od (.dK kvs)) → H S = some (.lst ((kvs.take i).map fun p => kV p.1)) → s.heap.IsKeyIter it d i kvs.length ep →
      (∀ s', L2.Inv X pins σ (upd H S (.lst (kvs.map fun p => kV p.1))) s' → Rs (.ok (.ret .none)) s') →
      codeAny (model X.prog X.w) A (.builtin "list.extend.loop" ⟨[.ref S, .ref it, .none], []⟩) Rs s := by
  intro k
  induction k with
  | zero =>
    intro i H s hk hi I fp hd hl st hR
    have e : i = kvs.length := by omega
    subst e
    obtain ⟨f0, f1, f2, f3, f4, f5⟩ := fp
    obtain ⟨_, hgd, _, es2, ep2, vs, hdt, hsz, kv, hm⟩ := I.frzK hd
    obtain ⟨e1, e2⟩ := dict_ep hod hdt
    subst e1
    subst e2
    refine codeAny_builtin PySem.F.entry_extend_loop ?_
    rw [Around.under_plainId PySem.F.plain_extend_loop _]
    show wpAny _ A.in1 (pyNext (.ref it) >>= _) _ _ s
    refine wpAny_bind (next_key_end hh st hgd hdt hsz (Nat.le_refl _) fun h' eb => ?_)
    have I1 := I.turned (t' := s.toks) (fun b o hb e => eb b o hb e) f0 f1 f3 f4 f5
    rw [List.take_length] at hl
    refine wpAny_pure (hR _ ?_)
    rw [show upd H S (.lst (kvs.map fun p => kV p.1)) = H from by
      funext b
      by_cases hb : b = S
      · rw [hb, upd_same, hl]
      · rw [upd_ne hb]]
    exact I1
  | succ k ih =>
    intro i H s hk hi I fp hd hl st hR
    have hlt : i < kvs.length := by omega
    obtain ⟨f0, f1, f2, f3, f4, f5⟩ := fp
    obtain ⟨_, hgd, _, es2, ep2, vs, hdt, hsz, kv, hm⟩ := I.frzK hd
    obtain ⟨e1, e2⟩ := dict_ep hod hdt
    subst e1
    subst e2
    have hlv : kvs.length = vs.length := Paired.length kv
    obtain ⟨u, hu, ru⟩ := kv_get kv (show kvs[i]? = some (kvs[i].1, kvs[i].2) from List.getElem?_eq_getElem hlt)
    refine codeAny_builtin PySem.F.entry_extend_loop ?_
    rw [Around.under_plainId PySem.F.plain_extend_loop _]
    show wpAny _ A.in1 (pyNext (.ref it) >>= _) _ _ s
    rw [hlv] at st
    refine wpAny_bind (wpAny_pyNext_dict_item st hm hu fun key h' hkey st' sb => ?_)
    have I1 : L2.Inv X pins σ H { s with heap := h' } := I.turned (t' := s.toks) (fun b ob hb e => (sb.2 b hb).trans e) f0 f1 f3 f4 f5
    obtain ⟨z, its, cc, r2, hln, e⟩ := I1.lstM hl
    have lt2 : its.length = i := by rw [← hln, List.length_map, List.length_take]; omega
    show wpAny _ A.in1 (updateSeq S (·.push key) >>= _) _ _ _
    have et : (kvs.take (i + 1)).map (fun p => kV p.1) = (kvs.take i).map (fun p => kV p.1) ++ [kV kvs[i].1] := by rw [List.take_succ, List.getElem?_eq_getElem hlt, List.map_append]; rfl
    refine wpAny_bind (wpAny_updateSeq e rfl (wpAny_pure ⟨plainId_quiet PySem.F.plain_extend_loop _, ?_⟩) (by rw [List.size_toArray]; omega) (by show (its.toArray.push key).size ≤ sizeLine + 1; rw [Array.size_push, List.size_toArray]; omega))
    have I3 := I1.lset (f := (·.push key)) (its' := its ++ [key]) (t' := s.toks) hl e (by simp) (r2.append (.cons (relV_key (show keyIs kvs[i].1 key = true from hkey)) .nil)) (by rw [List.length_append, List.length_singleton, List.length_map, List.length_take]; omega)
    rw [← et] at I3
    have hit2 : (upd H S (.lst ((kvs.take (i + 1)).map fun p => kV p.1))) it = none := by rw [upd_ne hS.symm]; exact f0
    refine ih (i + 1) _ _ (by omega) hlt I3 ⟨hit2, f1, f2, f3, f4, f5⟩ (by rw [upd_ne hSd.symm]; exact hd) upd_same ?_ (fun s' J => hR s' (by rw [upd_upd] at J; exact J))
    show (h'.update S _).IsKeyIter it d (i + 1) kvs.length _
    rw [hlv]
    exact st'.at fun o e => (Heap.get?_update_other _ _ hS).trans e
end
end Own
set_option Elab.async false
set_option linter.all false
set_option maxRecDepth 100000
set_option maxHeartbeats 2000000
/-! list(o), o an instance whose own __iter__ returns iter(d) -/
namespace Own
open PySem PySem.Spec PyProof.Rows L2
/-- a class that tells no length -/
theorem hint_no {M : Model} {A : Around} {E : Value → Shared → Prop} {s : Shared} {Q : Bool → Shared → Prop} {K : PySem.W.Frag} {a C : Addr} {ox : Obj} {od : Option Obj} (n1 : PySem.W.findIn K (.ref C) "__len__" = some none) (n2 : PySem.W.findIn K (.ref C) "__length_hint__" = some none)
    (hK : K.In s.heap) (J : PySem.W.InstAt s.heap a ox C od) (q : Q true s) : wpAny M A (Builtin.List.listLengthHint (.ref a)) Q E s := by
  have l1 := PySem.W.looks_findIn (M := M) hK n1
  have l2 := PySem.W.looks_findIn (M := M) hK n2
  unfold Builtin.List.listLengthHint
  refine wpAny_bind (wpAny_bind (J.type.here (l1.here ?_)))
  refine PySem.W.KFB.if_not (by rfl) (PySem.W.KFB.if_not (by rfl) ?_)
  exact wpAny_bind (wpAny_bind (J.type.here (l2.here (wpAny_pure q))))
def ListTold (C a S : Addr) (Q : VK) (m : Nat) : VK := fun v H2 => ∃ it d od kvs, v = V.ref it ∧ H2 it = some (KiO d od it) ∧ H2 d = some (.frz od (.dK kvs)) ∧ H2 S = some (.lst []) ∧ m ≤ it ∧ (∃ dx fs, H2 a = some (.ins C dx fs)) ∧ Q (.ref S) (upd (ItX.dropH H2 it) S (.lst (kvs.map fun p => kV p.1)))
def rListIt (C : Addr) (sp : Nat → Sp) (E : XK) : List V → Hp → VK → Prop := fun xs H Q => ∃ a dx fs, xs = [V.ref a] ∧ H a = some (.ins C dx fs) ∧ ∀ S, H S = none → ∀ m, sp m [.ref a] (upd H S (.lst [])) (ListTold C a S Q m) E
section
variable {X : Cx} {CX : CXT} {C f : Addr} {fd : FuncData} {ps : List Str} {n : Nat} {sp : Nat → Sp} {E : XK}
theorem list_fill {pins : List (Addr × Obj)} {σ : L2.St} {A : Around} {Rs : Result → Shared → Prop} {S a dx : Addr} {fs : List (Str × V)} {H : Hp} {s : Shared} {Q : VK}
    (F : ∀ base, FnOk X.prog X.w X.K X.mg base CX n f fd ps (sp base.objs.size)) (hb : L2.Binds X.K fd ps []) (hx : Passes CX X E) (hr : Room n A.in1) (hfr : A.in1.frames = X.A.frames) (hh : A.handled = none)
    (hs : PySem.W.findIn X.K (.ref C) "__iter__" = some (some (.ref f))) (hf : PySem.W.isFn X.K (.ref f) = true) (n1 : PySem.W.findIn X.K (.ref C) "__len__" = some none) (n2 : PySem.W.findIn X.K (.ref C) "__length_hint__" = some none)
    (I : L2.Inv X pins σ H s) (ha : H a = some (.ins C dx fs)) (hS : H S = some (.lst [])) (hsp : ∀ m, sp m [.ref a] H (ListTold C a S Q m) E)
    (done : ∀ H' s', L2.Inv X pins σ H' s' → Q (.ref S) H' → Rs (.ok (.ret .none)) s') (bad : ∀ e s', X.xe e s' → Rs (.error e) s') :
    wpAny (model X.prog X.w) A.in1 (Builtin.List.listExtendWith (.ref S) (.ref a) .none)
      (fun fin s' => match fin with | .done g => Rs (.ok g) s' | .again c' => c'.quiet = true ∧ codeAny (model X.prog X.w) A c' Rs s') (fun e s' => Rs (.error e) s') s := by
  have neS : S ≠ a := ne_of hS ha (fun z => nomatch z)
  obtain ⟨mA, J, _⟩ := ins_get I.hok ha
  obtain ⟨od0, J, _⟩ := J.look
  have t1 : Builtin.List.listSameRef (.ref S) (.ref a) = false := by simp [Builtin.List.listSameRef, neS]
  have t2 : (Value.ref C == Value.type "list" || Value.ref C == Value.type "tuple") = false := rfl
  unfold Builtin.List.listExtendWith
  refine wpAny_bind (J.type.here ?_)
  rw [t1, Bool.false_or]
  simp only [t2, Bool.false_eq_true, if_false]
  refine wpAny_bind (wpAny_mono (own_it F hb hx hr hfr hs hf (fun m v H2 ⟨it, d, od, kvs, e1, e2, _⟩ => ⟨it, d, od, e1, e2⟩) I ha hsp) (fun u s2 h2 => ?_) bad)
  obtain ⟨it0, H2, eu, I2, it, d, od, kvs, e0, hi, hd, hS2, hz, ⟨dx2, fs2, ha2⟩, hQ⟩ := h2
  subst eu
  have e9 : it = it0 := by cases e0; rfl
  subst e9
  obtain ⟨mB, J2, _⟩ := ins_get I2.hok ha2
  obtain ⟨od2, J2, _⟩ := J2.look
  refine wpAny_bind (wpAny_holding (hint_no n1 n2 I2.kIn J2 ?_))
  obtain ⟨es, ep, hod, hk⟩ := (show ObjOk X.prog X.w H2 s2.heap it (KiO d od it) from I2.hok it _ hi).1
  obtain ⟨_, _, _, es2, ep2, vs, hdt, hsz, kv, hm⟩ := I2.frzK hd
  obtain ⟨e1, e2⟩ := dict_ep hod hdt
  subst e1
  have nSi : S ≠ it := fun e => by rw [e, hi] at hS2; cases hS2
  have nSd : S ≠ d := fun e => by rw [e, hd] at hS2; cases hS2
  have ndi : d ≠ it := fun e => by rw [e, hi] at hd; cases hd
  have hzk : kvs.length ≤ sizeLine := (dk_rd I2.hok (.inr ⟨od, hd⟩)).1
  have I3 := ItX.inv_drop I2 hi
  have fp := ItX.inv_fp I2 hi (Nat.le_trans I.sz hz)
  have hS3 : ItX.dropH H2 it S = some (.lst []) := (ItX.dropH_ne nSi).trans hS2
  have hd3 : ItX.dropH H2 it d = some (.frz od (.dK kvs)) := (ItX.dropH_ne ndi).trans hd
  generalize ItX.dropH H2 it = H3 at I3 fp hS3 hd3 hQ
  have go : ∀ (s' : Shared), L2.Inv X pins σ H3 s' → s'.heap.IsKeyIter it d 0 kvs.length ep → codeAny (model X.prog X.w) A (.builtin "list.extend.loop" ⟨[.ref S, .ref it, .none], []⟩) Rs s' := fun s' I' st' =>
    key_loop hh hod hzk nSi nSd _ 0 H3 s' rfl (Nat.zero_le _) I' fp hd3 hS3 st' fun s'' I'' => done _ s'' I'' hQ
  rw [hsz] at hk
  obtain ⟨zz, its, cc, r3, ln3, e3⟩ := I3.lstM hS3
  cases r3
  refine wpAny_ite_split (fun _ => ?_) (fun _ => wpAny_pure ⟨plainId_quiet PySem.F.plain_extend_loop _, go s2 I3 hk⟩)
  refine wpAny_bind (wpAny_rule (wpAny_bind ?_))
  show wpAny _ _ (updateSeq S (·.push .none) >>= fun _ => updateSeq S (·.pop)) _ _ _
  refine wpAny_bind (wpAny_updateSeq e3 rfl ?_)
  have J1 := I3.lset (f := (·.push Value.none)) (its' := [Value.none]) (ys := [V.non]) (t' := s2.toks) hS3 e3 (by simp) (.cons rfl .nil) (by rw [List.length_singleton, sizeLine_eq]; decide)
  obtain ⟨z4, its4, c4, r4, ln4, e4⟩ := J1.lstM upd_same
  obtain ⟨u4, rfl, ru4⟩ := r4.one
  refine wpAny_updateSeq e4 rfl (wpAny_pure ⟨plainId_quiet PySem.F.plain_extend_loop _, go _ ?_ ?_⟩) (by show 1 ≤ sizeLine; rw [sizeLine_eq]; decide) (by show 0 ≤ sizeLine + 1; exact Nat.zero_le _)
  · have J2 := J1.lset (f := (·.pop)) (its := [u4]) (its' := []) (ys := []) (t' := s2.toks) upd_same e4 (by rfl) .nil (Nat.zero_le _)
    rw [upd_upd, show upd H3 S (.lst []) = H3 from by
      funext b
      by_cases hb : b = S
      · rw [hb, upd_same, hS3]
      · rw [upd_ne hb]] at J2
    exact J2
  · exact hk.at fun o e => (Heap.get?_update_other _ _ nSi).trans ((Heap.get?_update_other _ _ nSi).trans e)
theorem call_listIt (F : ∀ base, FnOk X.prog X.w X.K X.mg base CX n f fd ps (sp base.objs.size)) (hb : L2.Binds X.K fd ps []) (hx : Passes CX X E) (hc : X.calm = true) (hr : Room (n + 2) X.A)
    (hs : PySem.W.findIn X.K (.ref C) "__iter__" = some (some (.ref f))) (hf : PySem.W.isFn X.K (.ref f) = true) (n1 : PySem.W.findIn X.K (.ref C) "__len__" = some none) (n2 : PySem.W.findIn X.K (.ref C) "__length_hint__" = some none) :
    CallR X (.type "list") (rListIt C sp E) := by
  intro pins s σ H xs us Q I rv ⟨a, dx, fs, ex, ha, hq⟩
  subst ex
  obtain rfl := Vals.ref1 rv
  refine callType_codes (Q₁ := fun ob s1 => ob = .ref s.heap.objs.size ∧ s1 = { s with heap := s.heap.push { cls := .type "list", data := .seq #[] } }) PySem.F.called_list (PySem.F.typeCall_list_1 _) PySem.F.entry_list_init
    (code_list_new _ ⟨rfl, rfl⟩) fun ob s1 h1 => ?_
  obtain ⟨z1, z2⟩ := h1
  subst z1
  subst z2
  have hS : (s.heap.push { cls := .type "list", data := .seq #[] }).get? s.heap.objs.size = some { cls := .type "list", data := .seq #[] } := Heap.get?_push_size _ rfl
  have fr : H s.heap.objs.size = none := I.hok.fresh (Nat.le_refl _)
  refine ⟨⟨_, hS, rfl⟩, PySem.F.args_list_init_2 _ _, ?_⟩
  have I1 : L2.Inv X pins σ (upd H s.heap.objs.size (.lst [])) { s with heap := s.heap.push { cls := .type "list", data := .seq #[] } } := I.lnew (its := []) (t' := s.toks) .nil (Nat.zero_le _)
  show wpAny _ _ (Builtin.List.listItems (.ref s.heap.objs.size) >>= fun old => Builtin.List.listUpdate (.ref s.heap.objs.size) (fun _ => #[]) >>= fun _ => letGo old.toList.reverse >>= fun _ => Builtin.List.listExtendWith (.ref s.heap.objs.size) (.ref a) .none) _ _ _
  refine wpAny_bind ?_
  unfold Builtin.List.listItems
  refine wpAny_bind (wpAny_seqItems hS rfl (wpAny_pure ?_))
  refine wpAny_bind ?_
  show wpAny _ _ (updateSeq s.heap.objs.size (fun _ => #[])) _ _ _
  refine wpAny_updateSeq hS rfl (wpAny_bind (wpAny_letGo ?_))
  have I2 := I1.lset (f := fun _ => #[]) (its := []) (its' := []) (ys := []) (t' := s.toks) upd_same hS rfl .nil (Nat.zero_le _)
  rw [upd_upd] at I2
  exact list_fill (A := X.A.in1) (Rs := wants (fun r s2 => r = .none ∧ EP X pins σ Q (.ref s.heap.objs.size) s2) X.xe) F hb hx (Room.in1 (Room.in1 hr)) rfl (I.ok.hd hc) hs hf n1 n2 I2 (by rw [upd_ne (ne_of_none ha fr)]; exact ha) upd_same (hq _ fr)
    (fun H' s' I' q => ⟨rfl, .ref _, H', I', rfl, q⟩) fun e s' he => he
end
end Own
set_option Elab.async false
set_option linter.all false
set_option maxRecDepth 100000
set_option maxHeartbeats 2000000
/-! list(o), o an instance whose own __iter__ returns iter(d), and whose own __len__ tells a number -/
namespace Own
open PySem PySem.Spec PyProof.Rows L2
section
variable {X : Cx} {CX : CXT} {C f g : Addr} {fd gd : FuncData} {ps qs : List Str} {n m : Nat} {sp : Nat → Sp} {sl : Sp} {E : XK}
theorem own_call1 (F : FnOk X.prog X.w X.K X.mg X.base CX0 m g gd qs sl) (hb : L2.Binds X.K gd qs []) {A : Around} (hr : Room m A) (hfr : A.frames = X.A.frames)
    {pins : List (Addr × Obj)} {s : Shared} {σ : L2.St} {H : Hp} {x : V} {u : Value} {R : V → Hp → Prop} (I : L2.Inv X pins σ H s) (rx : L2.RelV x u) (hsp : sl [x] H R E) :
    wpAny (model X.prog X.w) A (call (.ref g) [u]) (fun w s' => ∃ z H', L2.RelV z w ∧ L2.Inv X pins σ H' s' ∧ R z H') (fun _ _ => False) s := by
  have e0 : Env0 X.prog X.w X.K X.mg X.base A X.stack s H := by
    have e := I.env0
    exact ⟨by rw [hfr]; exact e.frames, e.mod, e.bs, e.bsz, e.funs, e.frf, e.hok, e.bare⟩
  have hl := F.len _ _ _ _ hsp
  have r2 : L2.Vals [x] [u] := .cons rx .nil
  refine wpAny_call (codeAny_mono (F.run A X.stack s H ⟨[u], []⟩ [u] [x] R E hr e0 (by
    have := hb s [u] I.kIn (by simpa using hl)
    simpa using this) r2 hsp) fun r s' hq => ?_)
  cases r with
  | error e => exact False.elim hq
  | ok fl =>
    cases fl with
    | ret w =>
      obtain ⟨z, H', I', rz, q⟩ := I.after hq
      exact ⟨z, H', rz, I', q⟩
    | next => exact False.elim hq
    | brk => exact False.elim hq
    | cont => exact False.elim hq
/-- what an own __len__ has to tell -/
def LenTold (H : Hp) : VK := fun v H' => ∃ k : Nat, v = .int k ∧ k ≤ sizeLine ∧ H' = H
theorem len_own (F : FnOk X.prog X.w X.K X.mg X.base CX0 m g gd qs sl) (hb : L2.Binds X.K gd qs []) {A : Around} (hr : Room (m + 1) A) (hfr : A.frames = X.A.frames)
    (hs : PySem.W.findIn X.K (.ref C) "__len__" = some (some (.ref g))) (hf : PySem.W.isFn X.K (.ref g) = true) {pins : List (Addr × Obj)} {s : Shared} {σ : L2.St} {H : Hp} {a dx : Addr} {fs : List (Str × V)} (I : L2.Inv X pins σ H s) (ha : H a = some (.ins C dx fs)) (hsp : sl [.ref a] H (LenTold H) E) :
    wpAny (model X.prog X.w) A (call (.builtin "len") [.ref a]) (fun r s' => ∃ (k : Nat) (t : Tok), k ≤ sizeLine ∧ r = .int k t ∧ L2.Inv X pins σ H s') (fun _ _ => False) s := by
  obtain ⟨mA, J, _⟩ := ins_get I.hok ha
  obtain ⟨od0, J, _⟩ := J.look
  refine Calls.call_function_entry kind_len plain_len entry_len (args_len1 _) ?_
  unfold Builtin.«len»
  refine wpAny_bind (m := oneArg "len" _) (wpAny_pure ?_)
  refine wpAny_bind (m := callSpecial? (.ref a) (PySem.Str.ofString "__len__")) ?_
  unfold callSpecial? specialOf
  refine wpAny_bind (wpAny_bind (J.type.here ((PySem.W.looks_findIn I.kIn hs).here ?_)))
  refine wpAny_holding (wpAny_bind ((PySem.W.bind_fn I.kIn _ (beq_iff_eq.mp hf)).here ?_))
  refine wpAny_bind (wpAny_mono (own_call1 (A := A.in1) F hb (Room.in1 hr) hfr I (x := .ref a) rfl hsp) (fun w s' h => ?_) fun _ _ h => h)
  obtain ⟨z, H', rz, I', k, ez, hk, eH⟩ := h
  subst ez
  subst eH
  obtain ⟨t, rfl⟩ := (show ∃ t, w = Value.int k t from rz)
  have hz : sizeLine = 16777216 := sizeLine_eq
  refine wpAny_pure (wpAny_bind (wpAny_holding (wpAny_pure ?_)))
  refine wpAny_bind (wpAny_letGo ?_)
  show wpAny _ _ (if ((k : Nat) : Int) < 0 then _ else _) _ _ _
  rw [if_neg (by omega)]
  show wpAny _ _ (if ((k : Nat) : Int) ≥ 2 ^ 63 then _ else _) _ _ _
  rw [if_neg (by omega)]
  exact wpAny_bind (wpAny_mkInt (wpAny_pure ⟨_, rfl, _, _, hk, rfl, I'.tok _⟩))
theorem hint_own (F : FnOk X.prog X.w X.K X.mg X.base CX0 m g gd qs sl) (hb : L2.Binds X.K gd qs []) {A : Around} (hr : Room (m + 1) A) (hfr : A.frames = X.A.frames)
    (hs : PySem.W.findIn X.K (.ref C) "__len__" = some (some (.ref g))) (hf : PySem.W.isFn X.K (.ref g) = true) {pins : List (Addr × Obj)} {s : Shared} {σ : L2.St} {H : Hp} {a dx : Addr} {fs : List (Str × V)} (I : L2.Inv X pins σ H s) (ha : H a = some (.ins C dx fs)) (hsp : sl [.ref a] H (LenTold H) E)
    {Q : Bool → Shared → Prop} {Eh : Value → Shared → Prop} (q : ∀ b s', L2.Inv X pins σ H s' → Q b s') : wpAny (model X.prog X.w) A (Builtin.List.listLengthHint (.ref a)) Q Eh s := by
  obtain ⟨mA, J, _⟩ := ins_get I.hok ha
  obtain ⟨od0, J, _⟩ := J.look
  have l1 := PySem.W.looks_findIn (M := model X.prog X.w) I.kIn hs
  unfold Builtin.List.listLengthHint
  refine wpAny_bind (wpAny_bind (J.type.here (l1.here ?_)))
  refine PySem.W.KFB.if_not (by rfl) ?_
  refine wpAny_bind (wpAny_rule (wpAny_bind (wpAny_attempt (wpAny_mono (len_own F hb hr hfr hs hf I ha hsp) (fun r s' h => ?_) fun e s' h => h.elim))))
  obtain ⟨k, t, hk, rfl, I'⟩ := h
  have hz : sizeLine = 16777216 := sizeLine_eq
  refine wpAny_bind (wpAny_pure ?_)
  refine PySem.W.KFB.if_not (by show decide _ = false; exact decide_eq_false (by rw [Int.toNat_natCast]; omega)) ?_
  exact wpAny_pure (q _ _ I')
def ListToldL (C a S : Addr) (sl : Sp) (E : XK) (Q : VK) (m : Nat) : VK := fun v H2 => ∃ it d od kvs, v = V.ref it ∧ H2 it = some (KiO d od it) ∧ H2 d = some (.frz od (.dK kvs)) ∧ H2 S = some (.lst []) ∧ m ≤ it ∧ (∃ dx fs, H2 a = some (.ins C dx fs)) ∧ sl [V.ref a] H2 (LenTold H2) E ∧ Q (.ref S) (upd (ItX.dropH H2 it) S (.lst (kvs.map fun p => kV p.1)))
def rListIL (C : Addr) (sp : Nat → Sp) (sl : Sp) (E : XK) : List V → Hp → VK → Prop := fun xs H Q => ∃ a dx fs, xs = [V.ref a] ∧ H a = some (.ins C dx fs) ∧ ∀ S, H S = none → ∀ m, sp m [.ref a] (upd H S (.lst [])) (ListToldL C a S sl E Q m) E
theorem list_fillL {pins : List (Addr × Obj)} {σ : L2.St} {A : Around} {Rs : Result → Shared → Prop} {S a dx : Addr} {fs : List (Str × V)} {H : Hp} {s : Shared} {Q : VK}
    (F : ∀ base, FnOk X.prog X.w X.K X.mg base CX n f fd ps (sp base.objs.size)) (hb : L2.Binds X.K fd ps []) (hx : Passes CX X E) (hr : Room n A.in1) (hrm : Room (m + 1) A.in1) (hfr : A.in1.frames = X.A.frames) (hh : A.handled = none)
    (hs : PySem.W.findIn X.K (.ref C) "__iter__" = some (some (.ref f))) (hf : PySem.W.isFn X.K (.ref f) = true) (G : FnOk X.prog X.w X.K X.mg X.base CX0 m g gd qs sl) (hgb : L2.Binds X.K gd qs []) (n1 : PySem.W.findIn X.K (.ref C) "__len__" = some (some (.ref g))) (n2 : PySem.W.isFn X.K (.ref g) = true)
    (I : L2.Inv X pins σ H s) (ha : H a = some (.ins C dx fs)) (hS : H S = some (.lst [])) (hsp : ∀ m, sp m [.ref a] H (ListToldL C a S sl E Q m) E)
    (done : ∀ H' s', L2.Inv X pins σ H' s' → Q (.ref S) H' → Rs (.ok (.ret .none)) s') (bad : ∀ e s', X.xe e s' → Rs (.error e) s') :
    wpAny (model X.prog X.w) A.in1 (Builtin.List.listExtendWith (.ref S) (.ref a) .none)
      (fun fin s' => match fin with | .done g => Rs (.ok g) s' | .again c' => c'.quiet = true ∧ codeAny (model X.prog X.w) A c' Rs s') (fun e s' => Rs (.error e) s') s := by
  have neS : S ≠ a := ne_of hS ha (fun z => nomatch z)
  obtain ⟨mA, J, _⟩ := ins_get I.hok ha
  obtain ⟨od0, J, _⟩ := J.look
  have t1 : Builtin.List.listSameRef (.ref S) (.ref a) = false := by simp [Builtin.List.listSameRef, neS]
  have t2 : (Value.ref C == Value.type "list" || Value.ref C == Value.type "tuple") = false := rfl
  unfold Builtin.List.listExtendWith
  refine wpAny_bind (J.type.here ?_)
  rw [t1, Bool.false_or]
  simp only [t2, Bool.false_eq_true, if_false]
  refine wpAny_bind (wpAny_mono (own_it F hb hx hr hfr hs hf (fun m v H2 ⟨it, d, od, kvs, e1, e2, _⟩ => ⟨it, d, od, e1, e2⟩) I ha hsp) (fun u s2 h2 => ?_) bad)
  obtain ⟨it0, H2, eu, I2, it, d, od, kvs, e0, hi, hd, hS2, hz, ⟨dx2, fs2, ha2⟩, hL, hQ⟩ := h2
  subst eu
  have e9 : it = it0 := by cases e0; rfl
  subst e9
  obtain ⟨mB, J2, _⟩ := ins_get I2.hok ha2
  obtain ⟨od2, J2, _⟩ := J2.look
  refine wpAny_bind (wpAny_holding (hint_own G hgb hrm hfr n1 n2 I2 ha2 hL fun b9 s2 I2 => ?_))
  obtain ⟨es, ep, hod, hk⟩ := (show ObjOk X.prog X.w H2 s2.heap it (KiO d od it) from I2.hok it _ hi).1
  obtain ⟨_, _, _, es2, ep2, vs, hdt, hsz, kv, hm⟩ := I2.frzK hd
  obtain ⟨e1, e2⟩ := dict_ep hod hdt
  subst e1
  have nSi : S ≠ it := fun e => by rw [e, hi] at hS2; cases hS2
  have nSd : S ≠ d := fun e => by rw [e, hd] at hS2; cases hS2
  have ndi : d ≠ it := fun e => by rw [e, hi] at hd; cases hd
  have hzk : kvs.length ≤ sizeLine := (dk_rd I2.hok (.inr ⟨od, hd⟩)).1
  have I3 := ItX.inv_drop I2 hi
  have fp := ItX.inv_fp I2 hi (Nat.le_trans I.sz hz)
  have hS3 : ItX.dropH H2 it S = some (.lst []) := (ItX.dropH_ne nSi).trans hS2
  have hd3 : ItX.dropH H2 it d = some (.frz od (.dK kvs)) := (ItX.dropH_ne ndi).trans hd
  generalize ItX.dropH H2 it = H3 at I3 fp hS3 hd3 hQ
  have go : ∀ (s' : Shared), L2.Inv X pins σ H3 s' → s'.heap.IsKeyIter it d 0 kvs.length ep → codeAny (model X.prog X.w) A (.builtin "list.extend.loop" ⟨[.ref S, .ref it, .none], []⟩) Rs s' := fun s' I' st' =>
    key_loop hh hod hzk nSi nSd _ 0 H3 s' rfl (Nat.zero_le _) I' fp hd3 hS3 st' fun s'' I'' => done _ s'' I'' hQ
  rw [hsz] at hk
  obtain ⟨zz, its, cc, r3, ln3, e3⟩ := I3.lstM hS3
  cases r3
  refine wpAny_ite_split (fun _ => ?_) (fun _ => wpAny_pure ⟨plainId_quiet PySem.F.plain_extend_loop _, go s2 I3 hk⟩)
  refine wpAny_bind (wpAny_rule (wpAny_bind ?_))
  show wpAny _ _ (updateSeq S (·.push .none) >>= fun _ => updateSeq S (·.pop)) _ _ _
  refine wpAny_bind (wpAny_updateSeq e3 rfl ?_)
  have J1 := I3.lset (f := (·.push Value.none)) (its' := [Value.none]) (ys := [V.non]) (t' := s2.toks) hS3 e3 (by simp) (.cons rfl .nil) (by rw [List.length_singleton, sizeLine_eq]; decide)
  obtain ⟨z4, its4, c4, r4, ln4, e4⟩ := J1.lstM upd_same
  obtain ⟨u4, rfl, ru4⟩ := r4.one
  refine wpAny_updateSeq e4 rfl (wpAny_pure ⟨plainId_quiet PySem.F.plain_extend_loop _, go _ ?_ ?_⟩) (by show 1 ≤ sizeLine; rw [sizeLine_eq]; decide) (by show 0 ≤ sizeLine + 1; exact Nat.zero_le _)
  · have J2 := J1.lset (f := (·.pop)) (its := [u4]) (its' := []) (ys := []) (t' := s2.toks) upd_same e4 (by rfl) .nil (Nat.zero_le _)
    rw [upd_upd, show upd H3 S (.lst []) = H3 from by
      funext b
      by_cases hb : b = S
      · rw [hb, upd_same, hS3]
      · rw [upd_ne hb]] at J2
    exact J2
  · exact hk.at fun o e => (Heap.get?_update_other _ _ nSi).trans ((Heap.get?_update_other _ _ nSi).trans e)
theorem call_listIL (F : ∀ base, FnOk X.prog X.w X.K X.mg base CX n f fd ps (sp base.objs.size)) (hb : L2.Binds X.K fd ps []) (hx : Passes CX X E) (hc : X.calm = true) (hr : Room (n + 2) X.A) (hrm : Room (m + 3) X.A)
    (hs : PySem.W.findIn X.K (.ref C) "__iter__" = some (some (.ref f))) (hf : PySem.W.isFn X.K (.ref f) = true) (G : FnOk X.prog X.w X.K X.mg X.base CX0 m g gd qs sl) (hgb : L2.Binds X.K gd qs []) (n1 : PySem.W.findIn X.K (.ref C) "__len__" = some (some (.ref g))) (n2 : PySem.W.isFn X.K (.ref g) = true) :
    CallR X (.type "list") (rListIL C sp sl E) := by
  intro pins s σ H xs us Q I rv ⟨a, dx, fs, ex, ha, hq⟩
  subst ex
  obtain rfl := Vals.ref1 rv
  refine callType_codes (Q₁ := fun ob s1 => ob = .ref s.heap.objs.size ∧ s1 = { s with heap := s.heap.push { cls := .type "list", data := .seq #[] } }) PySem.F.called_list (PySem.F.typeCall_list_1 _) PySem.F.entry_list_init
    (code_list_new _ ⟨rfl, rfl⟩) fun ob s1 h1 => ?_
  obtain ⟨z1, z2⟩ := h1
  subst z1
  subst z2
  have hS : (s.heap.push { cls := .type "list", data := .seq #[] }).get? s.heap.objs.size = some { cls := .type "list", data := .seq #[] } := Heap.get?_push_size _ rfl
  have fr : H s.heap.objs.size = none := I.hok.fresh (Nat.le_refl _)
  refine ⟨⟨_, hS, rfl⟩, PySem.F.args_list_init_2 _ _, ?_⟩
  have I1 : L2.Inv X pins σ (upd H s.heap.objs.size (.lst [])) { s with heap := s.heap.push { cls := .type "list", data := .seq #[] } } := I.lnew (its := []) (t' := s.toks) .nil (Nat.zero_le _)
  show wpAny _ _ (Builtin.List.listItems (.ref s.heap.objs.size) >>= fun old => Builtin.List.listUpdate (.ref s.heap.objs.size) (fun _ => #[]) >>= fun _ => letGo old.toList.reverse >>= fun _ => Builtin.List.listExtendWith (.ref s.heap.objs.size) (.ref a) .none) _ _ _
  refine wpAny_bind ?_
  unfold Builtin.List.listItems
  refine wpAny_bind (wpAny_seqItems hS rfl (wpAny_pure ?_))
  refine wpAny_bind ?_
  show wpAny _ _ (updateSeq s.heap.objs.size (fun _ => #[])) _ _ _
  refine wpAny_updateSeq hS rfl (wpAny_bind (wpAny_letGo ?_))
  have I2 := I1.lset (f := fun _ => #[]) (its := []) (its' := []) (ys := []) (t' := s.toks) upd_same hS rfl .nil (Nat.zero_le _)
  rw [upd_upd] at I2
  exact list_fillL (A := X.A.in1) (Rs := wants (fun r s2 => r = .none ∧ EP X pins σ Q (.ref s.heap.objs.size) s2) X.xe) F hb hx (Room.in1 (Room.in1 hr)) (Room.in1 (Room.in1 hrm)) rfl (I.ok.hd hc) hs hf G hgb n1 n2 I2 (by rw [upd_ne (ne_of_none ha fr)]; exact ha) upd_same (hq _ fr)
    (fun H' s' I' q => ⟨rfl, .ref _, H', I', rfl, q⟩) fun e s' he => he
/-- len of a dict, locked or not -/
theorem call_lenRd : CallR X (.builtin "len") (fun xs H Q => ∃ a kvs, xs = [V.ref a] ∧ Rd H a (.dK kvs) ∧ Q (.int kvs.length) H) := by
  rintro pins s σ H xs us Q I r ⟨a, kvs, rfl, ha, q⟩
  obtain ⟨u, rfl, ru⟩ := vals1 r
  cases ru
  exact d_len I ha fun t s' I' => ⟨.int kvs.length, H, I', ⟨t, rfl⟩, q⟩
/-- rules for what stands in a comprehension, K written -/
theorem ixTupOf {K : PySem.W.Frag} (h : X.K = K) : IxR X (rIxT K) := h ▸ ix_tup
theorem fldOf {K : PySem.W.Frag} (h : X.K = K) {e : Expr} {ta : TE} {f : Str} {pos : Pos} (he : PE X e ta) (hb : attributeBase e f X.env (eval e X.env) = eval e X.env) : PE X (.Attribute e f pos) (tFld K ta f) := h ▸ pe_fld he hb
theorem notInSeqOf {K : PySem.W.Frag} (h : X.K = K) : OpR X (compareOp .NotIn) (rIn K true) := h ▸ op_notIn_seq
end
end Own
set_option Elab.async false
set_option linter.all false
set_option maxRecDepth 100000
set_option maxHeartbeats 4000000
namespace K5
open PySem L2
def top (i : Nat) : Stmt := PySem.Challenge.pw_cookcalls_k26_whole_shared_times_cancel.main.body.getD i (.Pass ⟨0, 0, 0, 0⟩)
abbrev s_is_integer : Stmt := top 5
abbrev N_is_integer : List Str := ["thing"]
abbrev P_is_integer : List Str := ["thing"]
theorem sc_is_integer : FnScope N_is_integer P_is_integer (defScope s_is_integer) := ⟨rfl, rfl, rfl, by decide +kernel, rfl, by decide +kernel, by decide +kernel⟩
abbrev s_is_list : Stmt := top 6
abbrev N_is_list : List Str := ["thing"]
abbrev P_is_list : List Str := ["thing"]
theorem sc_is_list : FnScope N_is_list P_is_list (defScope s_is_list) := ⟨rfl, rfl, rfl, by decide +kernel, rfl, by decide +kernel, by decide +kernel⟩
abbrev s_is_name : Stmt := top 7
abbrev N_is_name : List Str := ["thing", "sign"]
abbrev P_is_name : List Str := ["thing"]
theorem sc_is_name : FnScope N_is_name P_is_name (defScope s_is_name) := ⟨rfl, rfl, rfl, by decide +kernel, rfl, by decide +kernel, by decide +kernel⟩
abbrev s_is_dish : Stmt := top 8
abbrev N_is_dish : List Str := ["thing", "dishes"]
abbrev P_is_dish : List Str := ["thing", "dishes"]
theorem sc_is_dish : FnScope N_is_dish P_is_dish (defScope s_is_dish) := ⟨rfl, rfl, rfl, by decide +kernel, rfl, by decide +kernel, by decide +kernel⟩
abbrev s_alike : Stmt := top 9
abbrev N_alike : List Str := ["one", "other", "mine", "yours"]
abbrev P_alike : List Str := ["one", "other"]
theorem sc_alike : FnScope N_alike P_alike (defScope s_alike) := ⟨rfl, rfl, rfl, by decide +kernel, rfl, by decide +kernel, by decide +kernel⟩
abbrev s_is_bounds : Stmt := top 27
abbrev N_is_bounds : List Str := ["thing", "least", "most"]
abbrev P_is_bounds : List Str := ["thing"]
theorem sc_is_bounds : FnScope N_is_bounds P_is_bounds (defScope s_is_bounds) := ⟨rfl, rfl, rfl, by decide +kernel, rfl, by decide +kernel, by decide +kernel⟩
abbrev s_is_moment : Stmt := top 28
abbrev N_is_moment : List Str := ["thing", "dishes"]
abbrev P_is_moment : List Str := ["thing", "dishes"]
theorem sc_is_moment : FnScope N_is_moment P_is_moment (defScope s_is_moment) := ⟨rfl, rfl, rfl, by decide +kernel, rfl, by decide +kernel, by decide +kernel⟩
abbrev s_is_wish : Stmt := top 29
abbrev N_is_wish : List Str := ["thing", "dishes", "one", "other", "most"]
abbrev P_is_wish : List Str := ["thing", "dishes"]
theorem sc_is_wish : FnScope N_is_wish P_is_wish (defScope s_is_wish) := ⟨rfl, rfl, rfl, by decide +kernel, rfl, by decide +kernel, by decide +kernel⟩
abbrev s_as_moment : Stmt := top 31
abbrev N_as_moment : List Str := ["moment"]
abbrev P_as_moment : List Str := ["moment"]
theorem sc_as_moment : FnScope N_as_moment P_as_moment (defScope s_as_moment) := ⟨rfl, rfl, rfl, by decide +kernel, rfl, by decide +kernel, by decide +kernel⟩
abbrev s_as_wish : Stmt := top 32
abbrev N_as_wish : List Str := ["wish", "one", "other", "most"]
abbrev P_as_wish : List Str := ["wish"]
theorem sc_as_wish : FnScope N_as_wish P_as_wish (defScope s_as_wish) := ⟨rfl, rfl, rfl, by decide +kernel, rfl, by decide +kernel, by decide +kernel⟩
abbrev s_check_dish : Stmt := top 34
abbrev N_check_dish : List Str := ["name", "dishes"]
abbrev P_check_dish : List Str := ["name", "dishes"]
theorem sc_check_dish : FnScope N_check_dish P_check_dish (defScope s_check_dish) := ⟨rfl, rfl, rfl, by decide +kernel, rfl, by decide +kernel, by decide +kernel⟩
abbrev s_check_same : Stmt := top 35
abbrev N_check_same : List Str := ["meal", "tree"]
abbrev P_check_same : List Str := ["meal", "tree"]
theorem sc_check_same : FnScope N_check_same P_check_same (defScope s_check_same) := ⟨rfl, rfl, rfl, by decide +kernel, rfl, by decide +kernel, by decide +kernel⟩
abbrev s_check_moments : Stmt := top 36
abbrev N_check_moments : List Str := ["moments", "dishes", "thing"]
abbrev P_check_moments : List Str := ["moments", "dishes"]
theorem sc_check_moments : FnScope N_check_moments P_check_moments (defScope s_check_moments) := ⟨rfl, rfl, rfl, by decide +kernel, rfl, by decide +kernel, by decide +kernel⟩
abbrev s_Meal___init__ : Stmt := inClass (top 38) 0
abbrev N_Meal___init__ : List Str := ["self", "dishes", "wishes", "stations", "name", "wish", "station"]
abbrev P_Meal___init__ : List Str := ["self", "dishes", "wishes", "stations"]
theorem sc_Meal___init__ : FnScope N_Meal___init__ P_Meal___init__ (defScope s_Meal___init__) := ⟨rfl, rfl, rfl, by decide +kernel, rfl, by decide +kernel, by decide +kernel⟩
abbrev s_Meal_dishes : Stmt := inClass (top 38) 1
abbrev N_Meal_dishes : List Str := ["self"]
abbrev P_Meal_dishes : List Str := ["self"]
theorem sc_Meal_dishes : FnScope N_Meal_dishes P_Meal_dishes (defScope s_Meal_dishes) := ⟨rfl, rfl, rfl, by decide +kernel, rfl, by decide +kernel, by decide +kernel⟩
abbrev s_Meal_wishes : Stmt := inClass (top 38) 2
abbrev N_Meal_wishes : List Str := ["self"]
abbrev P_Meal_wishes : List Str := ["self"]
theorem sc_Meal_wishes : FnScope N_Meal_wishes P_Meal_wishes (defScope s_Meal_wishes) := ⟨rfl, rfl, rfl, by decide +kernel, rfl, by decide +kernel, by decide +kernel⟩
abbrev s_Meal___len__ : Stmt := inClass (top 38) 7
abbrev N_Meal___len__ : List Str := ["self"]
abbrev P_Meal___len__ : List Str := ["self"]
theorem sc_Meal___len__ : FnScope N_Meal___len__ P_Meal___len__ (defScope s_Meal___len__) := ⟨rfl, rfl, rfl, by decide +kernel, rfl, by decide +kernel, by decide +kernel⟩
abbrev s_Meal___iter__ : Stmt := inClass (top 38) 9
abbrev N_Meal___iter__ : List Str := ["self"]
abbrev P_Meal___iter__ : List Str := ["self"]
theorem sc_Meal___iter__ : FnScope N_Meal___iter__ P_Meal___iter__ (defScope s_Meal___iter__) := ⟨rfl, rfl, rfl, by decide +kernel, rfl, by decide +kernel, by decide +kernel⟩
abbrev s_check_dishes : Stmt := top 39
abbrev N_check_dishes : List Str := ["dishes", "name"]
abbrev P_check_dishes : List Str := ["dishes"]
theorem sc_check_dishes : FnScope N_check_dishes P_check_dishes (defScope s_check_dishes) := ⟨rfl, rfl, rfl, by decide +kernel, rfl, by decide +kernel, by decide +kernel⟩
abbrev s_check_wishes : Stmt := top 40
abbrev N_check_wishes : List Str := ["wishes", "dishes", "index", "thing"]
abbrev P_check_wishes : List Str := ["wishes", "dishes"]
theorem sc_check_wishes : FnScope N_check_wishes P_check_wishes (defScope s_check_wishes) := ⟨rfl, rfl, rfl, by decide +kernel, rfl, by decide +kernel, by decide +kernel⟩
abbrev s_check_stations : Stmt := top 41
abbrev N_check_stations : List Str := ["stations", "dishes", "index", "thing"]
abbrev P_check_stations : List Str := ["stations", "dishes"]
theorem sc_check_stations : FnScope N_check_stations P_check_stations (defScope s_check_stations) := ⟨rfl, rfl, rfl, by decide +kernel, rfl, by decide +kernel, by decide +kernel⟩
abbrev s_way_up : Stmt := top 43
abbrev N_way_up : List Str := ["name", "hooks", "names", "hook"]
abbrev P_way_up : List Str := ["name", "hooks"]
theorem sc_way_up : FnScope N_way_up P_way_up (defScope s_way_up) := ⟨rfl, rfl, rfl, by decide +kernel, rfl, by decide +kernel, by decide +kernel⟩
abbrev s_way_of : Stmt := top 44
abbrev N_way_of : List Str := ["moment", "hooks", "edge", "name", "way"]
abbrev P_way_of : List Str := ["moment", "hooks"]
theorem sc_way_of : FnScope N_way_of P_way_of (defScope s_way_of) := ⟨rfl, rfl, rfl, by decide +kernel, rfl, by decide +kernel, by decide +kernel⟩
abbrev s_dish_of : Stmt := top 45
abbrev N_dish_of : List Str := ["moment"]
abbrev P_dish_of : List Str := ["moment"]
theorem sc_dish_of : FnScope N_dish_of P_dish_of (defScope s_dish_of) := ⟨rfl, rfl, rfl, by decide +kernel, rfl, by decide +kernel, by decide +kernel⟩
abbrev s_spread : Stmt := top 46
abbrev N_spread : List Str := ["one", "other", "hooks", "bounds"]
abbrev P_spread : List Str := ["one", "other", "hooks", "bounds"]
theorem sc_spread : FnScope N_spread P_spread (defScope s_spread) := ⟨rfl, rfl, rfl, by decide +kernel, rfl, by decide +kernel, by decide +kernel⟩
abbrev s_most_longer : Stmt := top 47
abbrev N_most_longer : List Str := ["mine", "yours", "bounds", "longest", "name"]
abbrev P_most_longer : List Str := ["mine", "yours", "bounds"]
theorem sc_most_longer : FnScope N_most_longer P_most_longer (defScope s_most_longer) := ⟨rfl, rfl, rfl, by decide +kernel, rfl, by decide +kernel, by decide +kernel⟩
abbrev s_most_behind : Stmt := top 49
abbrev N_most_behind : List Str := ["meal", "book", "one", "other", "apart"]
abbrev P_most_behind : List Str := ["meal", "book", "one", "other"]
theorem sc_most_behind : FnScope N_most_behind P_most_behind (defScope s_most_behind) := ⟨rfl, rfl, rfl, by decide +kernel, rfl, by decide +kernel, by decide +kernel⟩
abbrev s_sum_of : Stmt := top 50
abbrev N_sum_of : List Str := ["moment", "book"]
abbrev P_sum_of : List Str := ["moment", "book"]
theorem sc_sum_of : FnScope N_sum_of P_sum_of (defScope s_sum_of) := ⟨rfl, rfl, rfl, by decide +kernel, rfl, by decide +kernel, by decide +kernel⟩
abbrev s_slacks : Stmt := top 51
abbrev N_slacks : List Str := ["meal", "book", "one", "other", "most"]
abbrev P_slacks : List Str := ["meal", "book"]
theorem sc_slacks : FnScope N_slacks P_slacks (defScope s_slacks) := ⟨rfl, rfl, rfl, by decide +kernel, rfl, by decide +kernel, by decide +kernel⟩
abbrev s_Hanging___init__ : Stmt := inClass (top 53) 0
abbrev N_Hanging___init__ : List Str := ["self", "rows", "name"]
abbrev P_Hanging___init__ : List Str := ["self", "rows"]
theorem sc_Hanging___init__ : FnScope N_Hanging___init__ P_Hanging___init__ (defScope s_Hanging___init__) := ⟨rfl, rfl, rfl, by decide +kernel, rfl, by decide +kernel, by decide +kernel⟩
abbrev s_Hanging_rows : Stmt := inClass (top 53) 1
abbrev N_Hanging_rows : List Str := ["self"]
abbrev P_Hanging_rows : List Str := ["self"]
theorem sc_Hanging_rows : FnScope N_Hanging_rows P_Hanging_rows (defScope s_Hanging_rows) := ⟨rfl, rfl, rfl, by decide +kernel, rfl, by decide +kernel, by decide +kernel⟩
abbrev s_check_rows : Stmt := top 54
abbrev N_check_rows : List Str := ["rows", "name"]
abbrev P_check_rows : List Str := ["rows"]
theorem sc_check_rows : FnScope N_check_rows P_check_rows (defScope s_check_rows) := ⟨rfl, rfl, rfl, by decide +kernel, rfl, by decide +kernel, by decide +kernel⟩
abbrev s_is_hook : Stmt := top 55
abbrev N_is_hook : List Str := ["thing", "rows", "key"]
abbrev P_is_hook : List Str := ["thing", "rows"]
theorem sc_is_hook : FnScope N_is_hook P_is_hook (defScope s_is_hook) := ⟨rfl, rfl, rfl, by decide +kernel, rfl, by decide +kernel, by decide +kernel⟩
abbrev s_check_rounds : Stmt := top 56
abbrev N_check_rounds : List Str := ["hooks", "name", "names"]
abbrev P_check_rounds : List Str := ["hooks"]
theorem sc_check_rounds : FnScope N_check_rounds P_check_rounds (defScope s_check_rounds) := ⟨rfl, rfl, rfl, by decide +kernel, rfl, by decide +kernel, by decide +kernel⟩
abbrev s_round_from : Stmt := top 57
abbrev N_round_from : List Str := ["name", "hooks", "names", "hook"]
abbrev P_round_from : List Str := ["name", "hooks"]
theorem sc_round_from : FnScope N_round_from P_round_from (defScope s_round_from) := ⟨rfl, rfl, rfl, by decide +kernel, rfl, by decide +kernel, by decide +kernel⟩
abbrev s_Book___init__ : Stmt := inClass (top 59) 0
abbrev N_Book___init__ : List Str := ["self", "rows", "name"]
abbrev P_Book___init__ : List Str := ["self", "rows"]
theorem sc_Book___init__ : FnScope N_Book___init__ P_Book___init__ (defScope s_Book___init__) := ⟨rfl, rfl, rfl, by decide +kernel, rfl, by decide +kernel, by decide +kernel⟩
abbrev s_Book_hanging : Stmt := inClass (top 59) 3
abbrev N_Book_hanging : List Str := ["self"]
abbrev P_Book_hanging : List Str := ["self"]
theorem sc_Book_hanging : FnScope N_Book_hanging P_Book_hanging (defScope s_Book_hanging) := ⟨rfl, rfl, rfl, by decide +kernel, rfl, by decide +kernel, by decide +kernel⟩
abbrev s_Book_added : Stmt := inClass (top 59) 5
abbrev N_Book_added : List Str := ["self", "name", "dish"]
abbrev P_Book_added : List Str := ["self", "name"]
theorem sc_Book_added : FnScope N_Book_added P_Book_added (defScope s_Book_added) := ⟨rfl, rfl, rfl, by decide +kernel, rfl, by decide +kernel, by decide +kernel⟩
abbrev s_Book___iter__ : Stmt := inClass (top 59) 8
abbrev N_Book___iter__ : List Str := ["self"]
abbrev P_Book___iter__ : List Str := ["self"]
theorem sc_Book___iter__ : FnScope N_Book___iter__ P_Book___iter__ (defScope s_Book___iter__) := ⟨rfl, rfl, rfl, by decide +kernel, rfl, by decide +kernel, by decide +kernel⟩
abbrev s_check_entries : Stmt := top 60
abbrev N_check_entries : List Str := ["rows", "name"]
abbrev P_check_entries : List Str := ["rows"]
theorem sc_check_entries : FnScope N_check_entries P_check_entries (defScope s_check_entries) := ⟨rfl, rfl, rfl, by decide +kernel, rfl, by decide +kernel, by decide +kernel⟩
abbrev s_is_entry : Stmt := top 61
abbrev N_is_entry : List Str := ["thing", "rows", "hook", "wait"]
abbrev P_is_entry : List Str := ["thing", "rows"]
theorem sc_is_entry : FnScope N_is_entry P_is_entry (defScope s_is_entry) := ⟨rfl, rfl, rfl, by decide +kernel, rfl, by decide +kernel, by decide +kernel⟩
abbrev s_is_wait : Stmt := top 62
abbrev N_is_wait : List Str := ["thing"]
abbrev P_is_wait : List Str := ["thing"]
theorem sc_is_wait : FnScope N_is_wait P_is_wait (defScope s_is_wait) := ⟨rfl, rfl, rfl, by decide +kernel, rfl, by decide +kernel, by decide +kernel⟩
abbrev s__law_fresh : Stmt := top 68
abbrev N__law_fresh : List Str := ["_law_script"]
abbrev P__law_fresh : List Str := ["_law_script"]
theorem sc__law_fresh : FnScope N__law_fresh P__law_fresh (defScope s__law_fresh) := ⟨rfl, rfl, rfl, by decide +kernel, rfl, by decide +kernel, by decide +kernel⟩
abbrev s__law_take : Stmt := top 69
abbrev N__law_take : List Str := ["_law_state", "_law_many", "_law_cell", "_law_digit", "_law_mixed"]
abbrev P__law_take : List Str := ["_law_state", "_law_many"]
theorem sc__law_take : FnScope N__law_take P__law_take (defScope s__law_take) := ⟨rfl, rfl, rfl, by decide +kernel, rfl, by decide +kernel, by decide +kernel⟩
abbrev s__law_one : Stmt := top 70
abbrev N__law_one : List Str := ["_law_state", "_law_things"]
abbrev P__law_one : List Str := ["_law_state", "_law_things"]
theorem sc__law_one : FnScope N__law_one P__law_one (defScope s__law_one) := ⟨rfl, rfl, rfl, by decide +kernel, rfl, by decide +kernel, by decide +kernel⟩
abbrev s__law_mix : Stmt := top 71
abbrev N__law_mix : List Str := ["_law_state", "_law_things", "_law_left", "_law_found"]
abbrev P__law_mix : List Str := ["_law_state", "_law_things"]
theorem sc__law_mix : FnScope N__law_mix P__law_mix (defScope s__law_mix) := ⟨rfl, rfl, rfl, by decide +kernel, rfl, by decide +kernel, by decide +kernel⟩
abbrev s__law_same : Stmt := top 72
abbrev N__law_same : List Str := ["_law_found", "_law_due", "_law_x", "_law_y"]
abbrev P__law_same : List Str := ["_law_found", "_law_due"]
theorem sc__law_same : FnScope N__law_same P__law_same (defScope s__law_same) := ⟨rfl, rfl, rfl, by decide +kernel, rfl, by decide +kernel, by decide +kernel⟩
abbrev s__law_names : Stmt := top 73
abbrev N__law_names : List Str := ["_law_state", "_law_many", "_law_some"]
abbrev P__law_names : List Str := ["_law_state", "_law_many"]
theorem sc__law_names : FnScope N__law_names P__law_names (defScope s__law_names) := ⟨rfl, rfl, rfl, by decide +kernel, rfl, by decide +kernel, by decide +kernel⟩
abbrev s__law_dishes : Stmt := top 74
abbrev N__law_dishes : List Str := ["_law_state", "_law_names_here", "_law_wide", "_law_found", "_law_name", "_law_least"]
abbrev P__law_dishes : List Str := ["_law_state", "_law_names_here", "_law_wide"]
theorem sc__law_dishes : FnScope N__law_dishes P__law_dishes (defScope s__law_dishes) := ⟨rfl, rfl, rfl, by decide +kernel, rfl, by decide +kernel, by decide +kernel⟩
abbrev s__law_moment : Stmt := top 75
abbrev N__law_moment : List Str := ["_law_state", "_law_names_here"]
abbrev P__law_moment : List Str := ["_law_state", "_law_names_here"]
theorem sc__law_moment : FnScope N__law_moment P__law_moment (defScope s__law_moment) := ⟨rfl, rfl, rfl, by decide +kernel, rfl, by decide +kernel, by decide +kernel⟩
abbrev s__law_wishes : Stmt := top 76
abbrev N__law_wishes : List Str := ["_law_state", "_law_names_here", "_law_many", "_law_found", "_law_k", "_law_sort", "_law_most", "_law_one_here", "_law_other"]
abbrev P__law_wishes : List Str := ["_law_state", "_law_names_here", "_law_many"]
theorem sc__law_wishes : FnScope N__law_wishes P__law_wishes (defScope s__law_wishes) := ⟨rfl, rfl, rfl, by decide +kernel, rfl, by decide +kernel, by decide +kernel⟩
abbrev s__law_hung : Stmt := top 77
abbrev N__law_hung : List Str := ["_law_state", "_law_names_here", "_law_row", "_law_found", "_law_k", "_law_name"]
abbrev P__law_hung : List Str := ["_law_state", "_law_names_here"]
theorem sc__law_hung : FnScope N__law_hung P__law_hung (defScope s__law_hung) := ⟨rfl, rfl, rfl, by decide +kernel, rfl, by decide +kernel, by decide +kernel⟩
abbrev s__law_waiting : Stmt := top 78
abbrev N__law_waiting : List Str := ["_law_state", "_law_anchors", "_law_name"]
abbrev P__law_waiting : List Str := ["_law_state", "_law_anchors"]
theorem sc__law_waiting : FnScope N__law_waiting P__law_waiting (defScope s__law_waiting) := ⟨rfl, rfl, rfl, by decide +kernel, rfl, by decide +kernel, by decide +kernel⟩
abbrev s__law_with : Stmt := top 79
abbrev N__law_with : List Str := ["_law_things", "_law_name", "_law_thing", "_law_found"]
abbrev P__law_with : List Str := ["_law_things", "_law_name", "_law_thing"]
theorem sc__law_with : FnScope N__law_with P__law_with (defScope s__law_with) := ⟨rfl, rfl, rfl, by decide +kernel, rfl, by decide +kernel, by decide +kernel⟩
abbrev s__law_below : Stmt := top 80
abbrev N__law_below : List Str := ["_law_rows", "_law_wait", "_law_found", "_law_name"]
abbrev P__law_below : List Str := ["_law_rows", "_law_wait"]
theorem sc__law_below : FnScope N__law_below P__law_below (defScope s__law_below) := ⟨rfl, rfl, rfl, by decide +kernel, rfl, by decide +kernel, by decide +kernel⟩
abbrev s__law_more : Stmt := top 81
abbrev N__law_more : List Str := ["_law_one_here", "_law_other", "_law_wait", "_law_bounds"]
abbrev P__law_more : List Str := ["_law_one_here", "_law_other", "_law_wait", "_law_bounds"]
theorem sc__law_more : FnScope N__law_more P__law_more (defScope s__law_more) := ⟨rfl, rfl, rfl, by decide +kernel, rfl, by decide +kernel, by decide +kernel⟩
abbrev s_law : Stmt := top 82
abbrev N_law : List Str := ["_law_script", "_law_state", "_law_turn", "_law_names_here", "_law_dishes_here", "_law_wishes_here", "_law_rows", "_law_wait", "_law_least", "_law_bounds", "_law_meal", "_law_book", "_law_later", "_law_below_here", "_law_due", "_law_k", "_law_left", "_law_again", "_law_one_here", "_law_other", "_law_wanted"]
abbrev P_law : List Str := ["_law_script"]
theorem sc_law : FnScope N_law P_law (defScope s_law) := ⟨rfl, rfl, rfl, by decide +kernel, rfl, by decide +kernel, by decide +kernel⟩
structure Ad where
  a_is_integer : Addr
  d_is_integer : FuncData
  a_is_list : Addr
  d_is_list : FuncData
  a_is_name : Addr
  d_is_name : FuncData
  a_is_dish : Addr
  d_is_dish : FuncData
  a_alike : Addr
  d_alike : FuncData
  a_is_bounds : Addr
  d_is_bounds : FuncData
  a_is_moment : Addr
  d_is_moment : FuncData
  a_is_wish : Addr
  d_is_wish : FuncData
  a_as_moment : Addr
  d_as_moment : FuncData
  a_as_wish : Addr
  d_as_wish : FuncData
  a_check_dish : Addr
  d_check_dish : FuncData
  a_check_same : Addr
  d_check_same : FuncData
  a_check_moments : Addr
  d_check_moments : FuncData
  a_Meal___init__ : Addr
  d_Meal___init__ : FuncData
  a_Meal_dishes : Addr
  d_Meal_dishes : FuncData
  a_Meal_wishes : Addr
  d_Meal_wishes : FuncData
  a_Meal___len__ : Addr
  d_Meal___len__ : FuncData
  a_Meal___iter__ : Addr
  d_Meal___iter__ : FuncData
  a_check_dishes : Addr
  d_check_dishes : FuncData
  a_check_wishes : Addr
  d_check_wishes : FuncData
  a_check_stations : Addr
  d_check_stations : FuncData
  a_way_up : Addr
  d_way_up : FuncData
  a_way_of : Addr
  d_way_of : FuncData
  a_dish_of : Addr
  d_dish_of : FuncData
  a_spread : Addr
  d_spread : FuncData
  a_most_longer : Addr
  d_most_longer : FuncData
  a_most_behind : Addr
  d_most_behind : FuncData
  a_sum_of : Addr
  d_sum_of : FuncData
  a_slacks : Addr
  d_slacks : FuncData
  a_Hanging___init__ : Addr
  d_Hanging___init__ : FuncData
  a_Hanging_rows : Addr
  d_Hanging_rows : FuncData
  a_check_rows : Addr
  d_check_rows : FuncData
  a_is_hook : Addr
  d_is_hook : FuncData
  a_check_rounds : Addr
  d_check_rounds : FuncData
  a_round_from : Addr
  d_round_from : FuncData
  a_Book___init__ : Addr
  d_Book___init__ : FuncData
  a_Book_hanging : Addr
  d_Book_hanging : FuncData
  a_Book_added : Addr
  d_Book_added : FuncData
  a_Book___iter__ : Addr
  d_Book___iter__ : FuncData
  a_check_entries : Addr
  d_check_entries : FuncData
  a_is_entry : Addr
  d_is_entry : FuncData
  a_is_wait : Addr
  d_is_wait : FuncData
  a__law_fresh : Addr
  d__law_fresh : FuncData
  a__law_take : Addr
  d__law_take : FuncData
  a__law_one : Addr
  d__law_one : FuncData
  a__law_mix : Addr
  d__law_mix : FuncData
  a__law_same : Addr
  d__law_same : FuncData
  a__law_names : Addr
  d__law_names : FuncData
  a__law_dishes : Addr
  d__law_dishes : FuncData
  a__law_moment : Addr
  d__law_moment : FuncData
  a__law_wishes : Addr
  d__law_wishes : FuncData
  a__law_hung : Addr
  d__law_hung : FuncData
  a__law_waiting : Addr
  d__law_waiting : FuncData
  a__law_with : Addr
  d__law_with : FuncData
  a__law_below : Addr
  d__law_below : FuncData
  a__law_more : Addr
  d__law_more : FuncData
  a_law : Addr
  d_law : FuncData
  a_Meal : Addr
  a_Hanging : Addr
  a_Book : Addr
  a_EDGES : Addr
  a_W0 : Addr
  a_S0 : Addr
structure Txt (K : PySem.W.Frag) (mg : Str → Option Value) (A : Ad) : Prop where
  f_is_integer : Fun K "is_integer" "is_integer" s_is_integer A.a_is_integer A.d_is_integer
  g_is_integer : mg "is_integer" = some (.ref A.a_is_integer)
  b_is_integer : Binds K A.d_is_integer P_is_integer []
  f_is_list : Fun K "is_list" "is_list" s_is_list A.a_is_list A.d_is_list
  g_is_list : mg "is_list" = some (.ref A.a_is_list)
  b_is_list : Binds K A.d_is_list P_is_list []
  f_is_name : Fun K "is_name" "is_name" s_is_name A.a_is_name A.d_is_name
  g_is_name : mg "is_name" = some (.ref A.a_is_name)
  b_is_name : Binds K A.d_is_name P_is_name []
  f_is_dish : Fun K "is_dish" "is_dish" s_is_dish A.a_is_dish A.d_is_dish
  g_is_dish : mg "is_dish" = some (.ref A.a_is_dish)
  b_is_dish : Binds K A.d_is_dish P_is_dish []
  f_alike : Fun K "alike" "alike" s_alike A.a_alike A.d_alike
  g_alike : mg "alike" = some (.ref A.a_alike)
  b_alike : Binds K A.d_alike P_alike []
  f_is_bounds : Fun K "is_bounds" "is_bounds" s_is_bounds A.a_is_bounds A.d_is_bounds
  g_is_bounds : mg "is_bounds" = some (.ref A.a_is_bounds)
  b_is_bounds : Binds K A.d_is_bounds P_is_bounds []
  f_is_moment : Fun K "is_moment" "is_moment" s_is_moment A.a_is_moment A.d_is_moment
  g_is_moment : mg "is_moment" = some (.ref A.a_is_moment)
  b_is_moment : Binds K A.d_is_moment P_is_moment []
  f_is_wish : Fun K "is_wish" "is_wish" s_is_wish A.a_is_wish A.d_is_wish
  g_is_wish : mg "is_wish" = some (.ref A.a_is_wish)
  b_is_wish : Binds K A.d_is_wish P_is_wish []
  f_as_moment : Fun K "as_moment" "as_moment" s_as_moment A.a_as_moment A.d_as_moment
  g_as_moment : mg "as_moment" = some (.ref A.a_as_moment)
  b_as_moment : Binds K A.d_as_moment P_as_moment []
  f_as_wish : Fun K "as_wish" "as_wish" s_as_wish A.a_as_wish A.d_as_wish
  g_as_wish : mg "as_wish" = some (.ref A.a_as_wish)
  b_as_wish : Binds K A.d_as_wish P_as_wish []
  f_check_dish : Fun K "check_dish" "check_dish" s_check_dish A.a_check_dish A.d_check_dish
  g_check_dish : mg "check_dish" = some (.ref A.a_check_dish)
  b_check_dish : Binds K A.d_check_dish P_check_dish []
  f_check_same : Fun K "check_same" "check_same" s_check_same A.a_check_same A.d_check_same
  g_check_same : mg "check_same" = some (.ref A.a_check_same)
  b_check_same : Binds K A.d_check_same P_check_same []
  f_check_moments : Fun K "check_moments" "check_moments" s_check_moments A.a_check_moments A.d_check_moments
  g_check_moments : mg "check_moments" = some (.ref A.a_check_moments)
  b_check_moments : Binds K A.d_check_moments P_check_moments []
  f_Meal___init__ : FunD K "__init__" "Meal.__init__" (defArgs s_Meal___init__) (defBody s_Meal___init__) (defScope s_Meal___init__) [.ref A.a_W0, .ref A.a_S0] [] A.a_Meal___init__ A.d_Meal___init__
  f_Meal_dishes : Fun K "dishes" "Meal.dishes" s_Meal_dishes A.a_Meal_dishes A.d_Meal_dishes
  b_Meal_dishes : Binds K A.d_Meal_dishes P_Meal_dishes []
  f_Meal_wishes : Fun K "wishes" "Meal.wishes" s_Meal_wishes A.a_Meal_wishes A.d_Meal_wishes
  b_Meal_wishes : Binds K A.d_Meal_wishes P_Meal_wishes []
  f_Meal___len__ : Fun K "__len__" "Meal.__len__" s_Meal___len__ A.a_Meal___len__ A.d_Meal___len__
  b_Meal___len__ : Binds K A.d_Meal___len__ P_Meal___len__ []
  f_Meal___iter__ : Fun K "__iter__" "Meal.__iter__" s_Meal___iter__ A.a_Meal___iter__ A.d_Meal___iter__
  b_Meal___iter__ : Binds K A.d_Meal___iter__ P_Meal___iter__ []
  f_check_dishes : Fun K "check_dishes" "check_dishes" s_check_dishes A.a_check_dishes A.d_check_dishes
  g_check_dishes : mg "check_dishes" = some (.ref A.a_check_dishes)
  b_check_dishes : Binds K A.d_check_dishes P_check_dishes []
  f_check_wishes : Fun K "check_wishes" "check_wishes" s_check_wishes A.a_check_wishes A.d_check_wishes
  g_check_wishes : mg "check_wishes" = some (.ref A.a_check_wishes)
  b_check_wishes : Binds K A.d_check_wishes P_check_wishes []
  f_check_stations : Fun K "check_stations" "check_stations" s_check_stations A.a_check_stations A.d_check_stations
  g_check_stations : mg "check_stations" = some (.ref A.a_check_stations)
  b_check_stations : Binds K A.d_check_stations P_check_stations []
  f_way_up : Fun K "way_up" "way_up" s_way_up A.a_way_up A.d_way_up
  g_way_up : mg "way_up" = some (.ref A.a_way_up)
  b_way_up : Binds K A.d_way_up P_way_up []
  f_way_of : Fun K "way_of" "way_of" s_way_of A.a_way_of A.d_way_of
  g_way_of : mg "way_of" = some (.ref A.a_way_of)
  b_way_of : Binds K A.d_way_of P_way_of []
  f_dish_of : Fun K "dish_of" "dish_of" s_dish_of A.a_dish_of A.d_dish_of
  g_dish_of : mg "dish_of" = some (.ref A.a_dish_of)
  b_dish_of : Binds K A.d_dish_of P_dish_of []
  f_spread : Fun K "spread" "spread" s_spread A.a_spread A.d_spread
  g_spread : mg "spread" = some (.ref A.a_spread)
  b_spread : Binds K A.d_spread P_spread []
  f_most_longer : Fun K "most_longer" "most_longer" s_most_longer A.a_most_longer A.d_most_longer
  g_most_longer : mg "most_longer" = some (.ref A.a_most_longer)
  b_most_longer : Binds K A.d_most_longer P_most_longer []
  f_most_behind : Fun K "most_behind" "most_behind" s_most_behind A.a_most_behind A.d_most_behind
  g_most_behind : mg "most_behind" = some (.ref A.a_most_behind)
  b_most_behind : Binds K A.d_most_behind P_most_behind []
  f_sum_of : Fun K "sum_of" "sum_of" s_sum_of A.a_sum_of A.d_sum_of
  g_sum_of : mg "sum_of" = some (.ref A.a_sum_of)
  b_sum_of : Binds K A.d_sum_of P_sum_of []
  f_slacks : Fun K "slacks" "slacks" s_slacks A.a_slacks A.d_slacks
  g_slacks : mg "slacks" = some (.ref A.a_slacks)
  b_slacks : Binds K A.d_slacks P_slacks []
  f_Hanging___init__ : Fun K "__init__" "Hanging.__init__" s_Hanging___init__ A.a_Hanging___init__ A.d_Hanging___init__
  b_Hanging___init__ : Binds K A.d_Hanging___init__ P_Hanging___init__ []
  f_Hanging_rows : Fun K "rows" "Hanging.rows" s_Hanging_rows A.a_Hanging_rows A.d_Hanging_rows
  b_Hanging_rows : Binds K A.d_Hanging_rows P_Hanging_rows []
  f_check_rows : Fun K "check_rows" "check_rows" s_check_rows A.a_check_rows A.d_check_rows
  g_check_rows : mg "check_rows" = some (.ref A.a_check_rows)
  b_check_rows : Binds K A.d_check_rows P_check_rows []
  f_is_hook : Fun K "is_hook" "is_hook" s_is_hook A.a_is_hook A.d_is_hook
  g_is_hook : mg "is_hook" = some (.ref A.a_is_hook)
  b_is_hook : Binds K A.d_is_hook P_is_hook []
  f_check_rounds : Fun K "check_rounds" "check_rounds" s_check_rounds A.a_check_rounds A.d_check_rounds
  g_check_rounds : mg "check_rounds" = some (.ref A.a_check_rounds)
  b_check_rounds : Binds K A.d_check_rounds P_check_rounds []
  f_round_from : Fun K "round_from" "round_from" s_round_from A.a_round_from A.d_round_from
  g_round_from : mg "round_from" = some (.ref A.a_round_from)
  b_round_from : Binds K A.d_round_from P_round_from []
  f_Book___init__ : Fun K "__init__" "Book.__init__" s_Book___init__ A.a_Book___init__ A.d_Book___init__
  b_Book___init__ : Binds K A.d_Book___init__ P_Book___init__ []
  f_Book_hanging : Fun K "hanging" "Book.hanging" s_Book_hanging A.a_Book_hanging A.d_Book_hanging
  b_Book_hanging : Binds K A.d_Book_hanging P_Book_hanging []
  f_Book_added : Fun K "added" "Book.added" s_Book_added A.a_Book_added A.d_Book_added
  b_Book_added : Binds K A.d_Book_added P_Book_added []
  f_Book___iter__ : Fun K "__iter__" "Book.__iter__" s_Book___iter__ A.a_Book___iter__ A.d_Book___iter__
  b_Book___iter__ : Binds K A.d_Book___iter__ P_Book___iter__ []
  f_check_entries : Fun K "check_entries" "check_entries" s_check_entries A.a_check_entries A.d_check_entries
  g_check_entries : mg "check_entries" = some (.ref A.a_check_entries)
  b_check_entries : Binds K A.d_check_entries P_check_entries []
  f_is_entry : Fun K "is_entry" "is_entry" s_is_entry A.a_is_entry A.d_is_entry
  g_is_entry : mg "is_entry" = some (.ref A.a_is_entry)
  b_is_entry : Binds K A.d_is_entry P_is_entry []
  f_is_wait : Fun K "is_wait" "is_wait" s_is_wait A.a_is_wait A.d_is_wait
  g_is_wait : mg "is_wait" = some (.ref A.a_is_wait)
  b_is_wait : Binds K A.d_is_wait P_is_wait []
  f__law_fresh : Fun K "_law_fresh" "_law_fresh" s__law_fresh A.a__law_fresh A.d__law_fresh
  g__law_fresh : mg "_law_fresh" = some (.ref A.a__law_fresh)
  b__law_fresh : Binds K A.d__law_fresh P__law_fresh []
  f__law_take : Fun K "_law_take" "_law_take" s__law_take A.a__law_take A.d__law_take
  g__law_take : mg "_law_take" = some (.ref A.a__law_take)
  b__law_take : Binds K A.d__law_take P__law_take []
  f__law_one : Fun K "_law_one" "_law_one" s__law_one A.a__law_one A.d__law_one
  g__law_one : mg "_law_one" = some (.ref A.a__law_one)
  b__law_one : Binds K A.d__law_one P__law_one []
  f__law_mix : Fun K "_law_mix" "_law_mix" s__law_mix A.a__law_mix A.d__law_mix
  g__law_mix : mg "_law_mix" = some (.ref A.a__law_mix)
  b__law_mix : Binds K A.d__law_mix P__law_mix []
  f__law_same : Fun K "_law_same" "_law_same" s__law_same A.a__law_same A.d__law_same
  g__law_same : mg "_law_same" = some (.ref A.a__law_same)
  b__law_same : Binds K A.d__law_same P__law_same []
  f__law_names : Fun K "_law_names" "_law_names" s__law_names A.a__law_names A.d__law_names
  g__law_names : mg "_law_names" = some (.ref A.a__law_names)
  b__law_names : Binds K A.d__law_names P__law_names []
  f__law_dishes : Fun K "_law_dishes" "_law_dishes" s__law_dishes A.a__law_dishes A.d__law_dishes
  g__law_dishes : mg "_law_dishes" = some (.ref A.a__law_dishes)
  b__law_dishes : Binds K A.d__law_dishes P__law_dishes []
  f__law_moment : Fun K "_law_moment" "_law_moment" s__law_moment A.a__law_moment A.d__law_moment
  g__law_moment : mg "_law_moment" = some (.ref A.a__law_moment)
  b__law_moment : Binds K A.d__law_moment P__law_moment []
  f__law_wishes : Fun K "_law_wishes" "_law_wishes" s__law_wishes A.a__law_wishes A.d__law_wishes
  g__law_wishes : mg "_law_wishes" = some (.ref A.a__law_wishes)
  b__law_wishes : Binds K A.d__law_wishes P__law_wishes []
  f__law_hung : Fun K "_law_hung" "_law_hung" s__law_hung A.a__law_hung A.d__law_hung
  g__law_hung : mg "_law_hung" = some (.ref A.a__law_hung)
  b__law_hung : Binds K A.d__law_hung P__law_hung []
  f__law_waiting : Fun K "_law_waiting" "_law_waiting" s__law_waiting A.a__law_waiting A.d__law_waiting
  g__law_waiting : mg "_law_waiting" = some (.ref A.a__law_waiting)
  b__law_waiting : Binds K A.d__law_waiting P__law_waiting []
  f__law_with : Fun K "_law_with" "_law_with" s__law_with A.a__law_with A.d__law_with
  g__law_with : mg "_law_with" = some (.ref A.a__law_with)
  b__law_with : Binds K A.d__law_with P__law_with []
  f__law_below : Fun K "_law_below" "_law_below" s__law_below A.a__law_below A.d__law_below
  g__law_below : mg "_law_below" = some (.ref A.a__law_below)
  b__law_below : Binds K A.d__law_below P__law_below []
  f__law_more : Fun K "_law_more" "_law_more" s__law_more A.a__law_more A.d__law_more
  g__law_more : mg "_law_more" = some (.ref A.a__law_more)
  b__law_more : Binds K A.d__law_more P__law_more []
  f_law : Fun K "law" "law" s_law A.a_law A.d_law
  g_law : mg "law" = some (.ref A.a_law)
  b_law : Binds K A.d_law P_law []
  g_CLOCK : ∃ t, mg "CLOCK" = some (.str "clock" t)
  g_LETTERS : ∃ t, mg "LETTERS" = some (.str "abcdefghijklmnopqrstuvwxyz" t)
  g_LONGEST_NAME : ∃ t, mg "LONGEST_NAME" = some (.int 8 t)
  len : mg "len" = none
  abs : mg "abs" = none
  int : mg "int" = none
  list : mg "list" = none
  tuple : mg "tuple" = none
  bool : mg "bool" = none
  str : mg "str" = none
  dict : mg "dict" = none
  isinstance : mg "isinstance" = none
  all : mg "all" = none
  any : mg "any" = none
  zip : mg "zip" = none
  enumerate : mg "enumerate" = none
  range : mg "range" = none
  sorted : mg "sorted" = none
  iter : mg "iter" = none
  sum : mg "sum" = none
  g_EDGES : mg "EDGES" = some (.ref A.a_EDGES)
  t_EDGES : SqT K (fun _ => none) A.a_EDGES [.str "start", .str "done"]
  cl_M : Cls K A.a_Meal
  nB : NoAttr K A.a_Meal "bounds"
  nW : NoAttr K A.a_Meal "wished"
  nP : NoAttr K A.a_Meal "places"
  g_Meal : mg "Meal" = some (.ref A.a_Meal)
  mkM : Mk K A.a_Meal A.a_Meal___init__
  m_dishes : Meth K A.a_Meal "dishes" A.a_Meal_dishes
  m_wishes : Meth K A.a_Meal "wishes" A.a_Meal_wishes
  e0 : SqT K (fun _ => none) A.a_S0 []
  b_Meal___init__ : ∃ ds, Vals [.ref A.a_S0] ds ∧ Binds K A.d_Meal___init__ P_Meal___init__ ds
  m_iterM : PySem.W.findIn K (.ref A.a_Meal) "__iter__" = some (some (.ref A.a_Meal___iter__)) ∧ PySem.W.isFn K (.ref A.a_Meal___iter__) = true
  m_lenM : PySem.W.findIn K (.ref A.a_Meal) "__len__" = some (some (.ref A.a_Meal___len__)) ∧ PySem.W.isFn K (.ref A.a_Meal___len__) = true
  g_Hanging : mg "Hanging" = some (.ref A.a_Hanging)
  cl : Cls K A.a_Hanging
  nH : NoAttr K A.a_Hanging "hooks"
  mkH : Mk K A.a_Hanging A.a_Hanging___init__
  m_rows : Meth K A.a_Hanging "rows" A.a_Hanging_rows
  g_Book : mg "Book" = some (.ref A.a_Book)
  cl_B : Cls K A.a_Book
  nBH : NoAttr K A.a_Book "hooks"
  nBW : NoAttr K A.a_Book "waits"
  mkB : Mk K A.a_Book A.a_Book___init__
  m_hanging : Meth K A.a_Book "hanging" A.a_Book_hanging
  m_added : Meth K A.a_Book "added" A.a_Book_added
  m_iterB : PySem.W.findIn K (.ref A.a_Book) "__iter__" = some (some (.ref A.a_Book___iter__)) ∧ PySem.W.isFn K (.ref A.a_Book___iter__) = true
  nLenB : PySem.W.findIn K (.ref A.a_Book) "__len__" = some none
  nHintB : PySem.W.findIn K (.ref A.a_Book) "__length_hint__" = some none

/-! ### the state of draws -/
def er (H : Hp) (st : Addr) : Hp := fun b => if b = st then none else H b
theorem er_ne {H : Hp} {st b : Addr} (h : b ≠ st) : er H st b = H b := if_neg h
theorem er_some {H : Hp} {st b : Addr} {o : HO} (h : er H st b = some o) : b ≠ st ∧ H b = some o := by
  by_cases e : b = st
  · rw [e] at h
    rw [show er H st st = none from if_pos rfl] at h
    cases h
  · exact ⟨e, (er_ne e).symm.trans h⟩
theorem er_same (H : Hp) (st : Addr) : Same (er H st) H := fun _ _ h => (er_some h).2
theorem er_upd (H : Hp) (st : Addr) (o : HO) : er (upd H st o) st = er H st := by
  funext b
  by_cases e : b = st
  · rw [e]; exact (if_pos rfl).trans (if_pos rfl).symm
  · rw [er_ne e, er_ne e, upd_ne e]
theorem er_of {H : Hp} {st b : Addr} {o : HO} (h : b ≠ st) (e : H b = some o) : er H st b = some o := (er_ne h).trans e
theorem er_mono {H H' : Hp} {st : Addr} (s : Same H H') : Same (er H st) (er H' st) := fun b o h =>
  er_of (er_some h).1 (s _ _ (er_some h).2)
def five (c : Addr) (i l m n : Int) : HO := .lst [.ref c, .int i, .int l, .int m, .int n]
structure Sta (H : Hp) (st c : Addr) (b : Int) : Prop where
  ex : ∃ (cs : List Int) (i : Nat) (l m n : Int), H st = some (five c (i : Int) l m n) ∧ er H st c = some (.lst (cs.map V.int)) ∧ i ≤ cs.length ∧ 0 ≤ l ∧ 0 ≤ m ∧ m < 2147483647 ∧ 0 ≤ n ∧ n ≤ b ∧ b ≤ 1000000
theorem Sta.same {H H' : Hp} {st c : Addr} {b : Int} (h : Sta H st c b) (s : Same H H') : Sta H' st c b := by
  obtain ⟨cs, i, l, m, n, h1, h2, h3⟩ := h.ex
  exact ⟨cs, i, l, m, n, s _ _ h1, er_mono s _ _ h2, h3⟩
theorem Sta.le {H : Hp} {st c : Addr} {b b' : Int} (h : Sta H st c b) (hb : b ≤ b') (h9 : b' ≤ 1000000) : Sta H st c b' := by
  obtain ⟨cs, i, l, m, n, h1, h2, h3, h4, h5, h6, h7, h8, _⟩ := h.ex
  exact ⟨cs, i, l, m, n, h1, h2, h3, h4, h5, h6, h7, by omega, h9⟩
theorem Sta.ne {H : Hp} {st c p : Addr} {b : Int} (h : Sta H st c b) (hp : H p = none) : p ≠ st := by
  obtain ⟨cs, i, l, m, n, h1, _⟩ := h.ex
  exact fun e => by rw [e, h1] at hp; cases hp
theorem Sta.nec {H : Hp} {st c p : Addr} {b : Int} (h : Sta H st c b) (hp : er H st p = none) : c ≠ p := by
  obtain ⟨cs, i, l, m, n, _, h1, _⟩ := h.ex
  exact ne_of_none h1 hp
theorem Same.new {H : Hp} {p : Addr} {o : HO} (hp : H p = none) : Same H (upd H p o) := fun b u e => by
  rw [upd_ne (ne_of_none e hp)]; exact e
theorem sqUp {K : PySem.W.Frag} {H H' : Hp} {a : Addr} {xs : List V} (h : SqL K H a xs) (s : Same H H') : SqL K H' a xs := s.seq h
theorem sqEr {K : PySem.W.Frag} {H : Hp} {st a : Addr} {xs : List V} (h : SqL K (er H st) a xs) : SqL K H a xs := (er_same H st).seq h
theorem er_updp {H : Hp} {st p : Addr} {o : HO} (hp : p ≠ st) : er (upd H p o) st = upd (er H st) p o := by
  funext b
  by_cases e : b = st
  · rw [e, upd_ne (fun z => hp z.symm)]; exact (if_pos rfl).trans (if_pos rfl).symm
  · by_cases e2 : b = p
    · rw [e2, upd_same, er_ne hp, upd_same]
    · rw [upd_ne e2, er_ne e, er_ne e, upd_ne e2]
theorem er_none {H : Hp} {st p : Addr} (h : H p = none) : er H st p = none := by
  by_cases e : p = st
  · exact if_pos e
  · exact (er_ne e).trans h
/-- what a helper that draws leaves: the state, and all that stood beside it -/
structure Gs (st c : Addr) (H H' : Hp) (b : Int) : Prop where
  sta : Sta H' st c b
  same : Same (er H st) (er H' st)
theorem Gs.trans {st c : Addr} {H H1 H2 : Hp} {b b' : Int} (g : Gs st c H H1 b) (g' : Gs st c H1 H2 b') : Gs st c H H2 b' := ⟨g'.sta, g.same.trans g'.same⟩
theorem Gs.refl {st c : Addr} {H : Hp} {b : Int} (h : Sta H st c b) : Gs st c H H b := ⟨h, Same.refl _⟩
theorem Gs.of_upd {st c : Addr} {H : Hp} {o : HO} {b : Int} (h : Sta (upd H st o) st c b) : Gs st c H (upd H st o) b := ⟨h, by rw [er_upd]; exact Same.refl _⟩
theorem Gs.of_same {st c : Addr} {H H' : Hp} {b : Int} (h : Sta H st c b) (s : Same H H') : Gs st c H H' b := ⟨h.same s, er_mono s⟩
theorem Gs.le {st c : Addr} {H H' : Hp} {b b' : Int} (g : Gs st c H H' b) (hb : b ≤ b') (h9 : b' ≤ 1000000) : Gs st c H H' b' := ⟨g.sta.le hb h9, g.same⟩
/-- a thing of the helper's own changes -/
theorem Gs.set {st c p : Addr} {H H' : Hp} {b : Int} {o : HO} (g : Gs st c H H' b) (hc : er H st c ≠ none) (hp : er H st p = none) (hs : p ≠ st) : Gs st c H (upd H' p o) b := by
  refine ⟨?_, fun b u e => ?_⟩
  · obtain ⟨cs, i, l, m, n, h1, h2, h3⟩ := g.sta.ex
    refine ⟨cs, i, l, m, n, by rw [upd_ne (fun z => hs z.symm)]; exact h1, ?_, h3⟩
    rw [er_updp hs, upd_ne (fun z => hc (by rw [z]; exact hp))]
    exact h2
  · rw [er_updp hs, upd_ne (ne_of_none e hp)]
    exact g.same _ _ e
theorem Gs.new {st c p : Addr} {H H' : Hp} {b : Int} {o : HO} (g : Gs st c H H' b) (hp : H' p = none) : Gs st c H (upd H' p o) b :=
  g.trans (Gs.of_same g.sta (Same.new hp))
theorem Sta.hc {H : Hp} {st c : Addr} {b : Int} (h : Sta H st c b) : er H st c ≠ none := by
  obtain ⟨cs, i, l, m, n, _, h1, _⟩ := h.ex
  rw [h1]
  exact fun z => by cases z

theorem while_ex {c : TT} {tb : TS} {D : Ends} {σ : St} {H : Hp} (W : Nat → St → Hp → Prop) (Ex : St → Hp → Prop) {m : Nat} (h0 : W m σ H)
    (hs : ∀ nx : St → Hp → Prop, (∀ σ H, Ex σ H → nx σ H) → ∀ m σ H, W m σ H → c σ H fun b H1 => if b = true then ∃ N : St → Hp → Prop, (∀ σ' H', N σ' H' → ∃ m', m' < m ∧ W m' σ' H') ∧ tb { D with nx := N, ct := N, bk := nx } σ H1 else nx σ H1)
    (hd : ∀ σ H, Ex σ H → D.nx σ H) : tWhile c tb D σ H := ⟨W, ⟨m, h0⟩, hs D.nx hd⟩
theorem cast_heap {F : Hp → Prop} {a b : Hp} (e : a = b) (h : F b) : F a := e ▸ h

def spTake : Sp := fun vs H Q _ => ∃ (st c : Addr) (many b : Int), vs = [.ref st, .int many] ∧ Sta H st c b ∧ b + 1 ≤ 1000000 ∧ 0 < many ∧ many < 1073741824 ∧
  ∀ (r : Int) (o : HO), 0 ≤ r → r < many → Sta (upd H st o) st c (b + 1) → Q (.int r) (upd H st o)

local macro_rules | `(tactic| walk_at "rd1") => `(tactic| first
  | refine ⟨_, _, rfl, rfl, ?_⟩
  | refine ⟨_, _, _, _, rfl, rfl, SqL.of (by assumption), rfl, ?_⟩
  | refine ⟨_, _, _, _, rfl, rfl, (by assumption), rfl, ?_⟩
  | refine .inl ⟨_, rfl, ?_⟩
  | refine ⟨_, rfl, ?_⟩
  | refine ⟨(by unfold CMul; omega), ?_⟩
  | refine ⟨(by unfold CPow; omega), ?_⟩
  | refine ⟨(by (try dsimp only); omega), ?_⟩
  | refine ⟨(by unfold CDiv; omega), ?_⟩
  | fail "rd1")
local macro_rules | `(tactic| walk_at "rd") => `(tactic| repeat' (walk_at "rd1"))
def spFresh (K : PySem.W.Frag) : Sp := fun vs H Q _ => ∃ (a : Addr) (ns : List Int), vs = [.ref a] ∧ SqL K H a (ns.map V.int) ∧
  ∀ (st c : Addr) (H' : Hp), Same H (er H' st) → Sta H' st c 0 → Q (.ref st) H'
def spOne (K : PySem.W.Frag) : Sp := fun vs H Q _ => ∃ (st c t : Addr) (xs : List V) (b : Int), vs = [.ref st, .ref t] ∧ Sta H st c b ∧ b + 1 ≤ 1000000 ∧ SqL K (er H st) t xs ∧ 0 < xs.length ∧ xs.length < 1073741824 ∧
  ∀ (i : Nat) (v : V) (H' : Hp), xs[i]? = some v → Gs st c H H' (b + 1) → Q v H'
def spMix (K : PySem.W.Frag) : Sp := fun vs H Q _ => ∃ (st c t : Addr) (ss : List Str) (b : Int), vs = [.ref st, .ref t] ∧ Sta H st c b ∧ b + 64 ≤ 1000000 ∧ SqL K (er H st) t (ss.map V.str) ∧ ss.length ≤ 64 ∧ (∀ s ∈ ss, PyData.strOk s = true) ∧
  ∀ (p : Addr) (ys : List Str) (H' : Hp), ys.Perm ss → Gs st c H H' (b + 64) → er H' st p = some (.lst (ys.map V.str)) → er H st p = none → Q (.ref p) H'
def spSome (K : PySem.W.Frag) : Sp := fun vs H Q _ => ∃ (st c t : Addr) (ss : List Str) (b : Int), vs = [.ref st, .ref t] ∧ Sta H st c b ∧ b + 64 ≤ 1000000 ∧ SqL K (er H st) t (ss.map V.str) ∧ ss.length ≤ 64 ∧
  ∀ (p : Addr) (ys : List Str) (H' : Hp), ys.Sublist ss → Gs st c H H' (b + 64) → er H' st p = some (.lst (ys.map V.str)) → er H st p = none → Q (.ref p) H'
section
variable {P : Program} {w : World} {K : PySem.W.Frag} {mg : Str → Option Value} {base : Heap} {A : Ad}
theorem ok_take (T : Txt K mg A) : FnOk P w K mg base CX0 1 A.a__law_take A.d__law_take P__law_take spTake := by
  refine T.f__law_take.ok sc__law_take (fun vs H Q E h => ?_) (fun cdv A' outer s H vs Q E hr h => ?_)
  · obtain ⟨st, c, many, b, rfl, _⟩ := h
    rfl
  · obtain ⟨st, c, many, b, rfl, S, hb1, hm0, hm1, k⟩ := h
    obtain ⟨cs, i, l, m, n, h1, h2, h3, h4, h5, h6, h7, h8, h9⟩ := S.ex
    refine ⟨_, (pss_cons (ps_asg (pe_op op_add (pe_ix ix_list (pv 0) pe_int (fun _ _ => rfl)) pe_int) (pg_sub (pv 0) pe_int set_list))
 (pss_cons (ps_while PassesOwn.never (PW.pt (pw_and (pt_cmpR op_eq (pe_ix ix_list (pv 0) pe_int (fun _ _ => rfl)) pe_int (nomark _)) (pw_and1 (pt_cmpR op_lt (pe_ix ix_list (pv 0) pe_int (fun _ _ => rfl)) (pe_callB call_len_seq (by rfl) T.len PySem.boot_len (pa_cons (pe_ix ix_list (pv 0) pe_int (fun _ _ => rfl)) pa_nil)) (nomark _)))))
 (pss_cons (ps_set (i := 2) sc__law_take.nd rfl (Or.inl rfl) (pe_callB call_abs (by rfl) T.abs (by decide +kernel) (pa_cons (pe_ix ix_list (pe_ix ix_list (pv 0) pe_int (fun _ _ => rfl)) (pe_ix ix_list (pv 0) pe_int (fun _ _ => rfl)) (fun _ _ => rfl)) pa_nil)))
 (pss_cons (ps_asg (pe_op op_add (pe_ix ix_list (pv 0) pe_int (fun _ _ => rfl)) pe_int) (pg_sub (pv 0) pe_int set_list))
 (pss_one (ps_if (pt_cmpR op_ge (pv 2) (pe_op op_pow pe_int pe_int) (nomark _))
 (pss_one (ps_asg (pv 2) (pg_sub (pv 0) pe_int set_list)))
 (pss_one (ps_asg (pe_op op_mod (pe_callTy call_int1 (by rfl) T.int (by decide +kernel) (pa_cons (pe_op op_add (pe_op op_add (pe_op op_mul (pe_ix ix_list (pv 0) pe_int (fun _ _ => rfl)) pe_int) (pv 2)) pe_int) pa_nil)) pe_int) (pg_sub (pv 0) pe_int set_list))))))))
 (pss_cons (ps_if (pt_cmpR op_gt (pe_ix ix_list (pv 0) pe_int (fun _ _ => rfl)) pe_int (nomark _))
 (pss_cons (ps_set (i := 3) sc__law_take.nd rfl (Or.inl rfl) (pe_op op_mod (pe_callTy call_int1 (by rfl) T.int (by decide +kernel) (pa_cons (pe_ix ix_list (pv 0) pe_int (fun _ _ => rfl)) pa_nil)) (pv 1)))
 (pss_cons (ps_asg (pe_op op_fdiv (pe_ix ix_list (pv 0) pe_int (fun _ _ => rfl)) (pv 1)) (pg_sub (pv 0) pe_int set_list))
 (pss_one (ps_ret (pv 3)))))
 pss_nil)
 (pss_cons (ps_set (i := 4) sc__law_take.nd rfl (Or.inl rfl) (pe_op op_mod (pe_callTy call_int1 (by rfl) T.int (by decide +kernel) (pa_cons (pe_op op_pow (pe_op op_add (pe_op op_add (pe_ix ix_list (pv 0) pe_int (fun _ _ => rfl)) (pe_op op_mul pe_int (pe_ix ix_list (pv 0) pe_int (fun _ _ => rfl)))) pe_int) pe_int) pa_nil)) pe_int))
 (pss_cons (ps_set (i := 4) sc__law_take.nd rfl (Or.inl rfl) (pe_op op_mod (pe_callTy call_int1 (by rfl) T.int (by decide +kernel) (pa_cons (pe_op op_pow (pe_op op_add (pv 4) (pe_op op_mul pe_int (pe_ix ix_list (pv 0) pe_int (fun _ _ => rfl)))) pe_int) pa_nil)) pe_int))
 (pss_one (ps_ret (pe_op op_mod (pe_callTy call_int1 (by rfl) T.int (by decide +kernel) (pa_cons (pe_op op_fdiv (pv 4) pe_int) pa_nil)) (pv 1))))))))), ?_⟩
    -- state[4] = state[4] + 1
    refine ⟨_, rfl, _, _, _, _, rfl, rfl, SqL.of h1, rfl, _, _, rfl, rfl, _, rfl, _, _, _, _, rfl, rfl, h1, rfl, ?_⟩
    refine while_ex (fun mm σ' H' => ∃ (i : Nat) (l m : Int) (v : Option V), σ' = [some (.ref st), some (.int many), v, none, none] ∧ H' = upd H st (five c (i : Int) l m (n + 1)) ∧ i ≤ cs.length ∧ 0 ≤ l ∧ 0 ≤ m ∧ m < 2147483647 ∧ mm = cs.length - i)
      (fun σ' H' => ∃ (i : Nat) (l m : Int) (v : Option V), σ' = [some (.ref st), some (.int many), v, none, none] ∧ H' = upd H st (five c (i : Int) l m (n + 1)) ∧ i ≤ cs.length ∧ 0 ≤ l ∧ 0 ≤ m ∧ m < 2147483647)
      ⟨i, l, m, none, rfl, rfl, h3, h4, h5, h6, rfl⟩ (fun nx hnx => ?_) ?_
    rintro mm σ' H' ⟨i, l, m, v, rfl, rfl, h3, h4, h5, h6, rfl⟩
    have hu : upd H st (five c (i : Int) l m (n + 1)) st = some (five c (i : Int) l m (n + 1)) := upd_same
    have hc : SqL K (upd H st (five c (i : Int) l m (n + 1))) c (cs.map V.int) := SqL.of ((er_same _ st) _ _ (by rw [er_upd]; exact h2))
    -- the test
    refine ⟨_, rfl, _, _, _, _, rfl, rfl, SqL.of hu, rfl, rfl, _, rfl, ?_⟩
    refine ite2 (fun hl => ?_) (fun hl => ?_)
    · have el : l = 0 := by
        have q := of_decide_eq_true hl
        cases q
        rfl
      subst el
      refine ⟨_, rfl, _, _, _, _, rfl, rfl, SqL.of hu, rfl, _, rfl, _, _, _, _, rfl, rfl, SqL.of hu, rfl, _, _, rfl, .inl hc, _, _, rfl, rfl, _, rfl, ?_⟩
      refine ite2 (fun hi => ?_) (fun hi => ?_)
      · have hi' : i < cs.length := by
          have q := of_decide_eq_true hi
          rw [List.length_map] at q
          omega
        refine ⟨_, fun _ _ z => z, ?_⟩
        -- cell = abs(state[0][state[1]]); state[1] = state[1] + 1
        refine ⟨_, rfl, _, _, _, _, rfl, rfl, SqL.of hu, rfl, _, rfl, _, _, _, _, rfl, rfl, SqL.of hu, rfl, _, _, _, _, rfl, rfl, hc, atI_nat (by rw [List.getElem?_map, List.getElem?_eq_getElem hi']; rfl), _, rfl, ?_⟩
        refine ⟨_, rfl, _, _, _, _, rfl, rfl, SqL.of hu, rfl, _, _, rfl, rfl, _, rfl, _, _, _, _, rfl, rfl, hu, rfl, ?_⟩
        have e2 : upd (upd H st (five c (i : Int) 0 m (n + 1))) st (five c ((i : Int) + 1) 0 m (n + 1)) = upd H st (five c (((i + 1 : Nat)) : Int) 0 m (n + 1)) := upd_upd
        refine cast_heap e2 ?_
        have hu2 : upd H st (five c (((i + 1 : Nat)) : Int) 0 m (n + 1)) st = some (five c (((i + 1 : Nat)) : Int) 0 m (n + 1)) := upd_same
        generalize hcell : (if cs[i] < 0 then -cs[i] else cs[i]) = cell
        have hc0 : 0 ≤ cell := by
          rw [← hcell]
          split <;> omega
        -- if cell >= 10 ** 18
        refine ⟨_, rfl, _, _, rfl, rfl, ⟨by decide, by decide, by decide⟩, _, _, rfl, rfl, _, rfl, ?_⟩
        refine ite2 (fun hg => ?_) (fun hg => ?_)
        · refine ⟨_, rfl, _, rfl, _, _, _, _, rfl, rfl, hu2, rfl, ?_⟩
          exact ⟨cs.length - (i + 1), by omega, i + 1, cell, m, _, rfl, upd_upd, hi', hc0, h5, h6, rfl⟩
        · have hlt : cell < 10 ^ 18 := by
            refine Int.not_le.mp fun q => hg (decide_eq_true ?_)
            exact q
          refine ⟨_, rfl, _, _, _, _, rfl, rfl, SqL.of hu2, rfl, _, _, rfl, rfl, .inl ⟨by omega, by omega⟩, _, rfl, _, _, rfl, rfl, _, _, rfl, rfl, .inl ⟨_, rfl, _, _, rfl, rfl, (by show (0 : Int) < 2147483647; decide), _, rfl, _, _, _, _, rfl, rfl, hu2, rfl, ?_⟩⟩
          refine ⟨cs.length - (i + 1), by omega, i + 1, 0, (m * 131 + cell + 1) % 2147483647, _, rfl, upd_upd, hi', Int.le_refl _, Int.emod_nonneg _ (by decide), Int.emod_lt_of_pos _ (by decide), rfl⟩
      · exact hnx _ _ ⟨i, 0, m, v, rfl, rfl, h3, h4, h5, h6⟩
    · exact hnx _ _ ⟨i, l, m, v, rfl, rfl, h3, h4, h5, h6⟩
    -- behind the loop
    rintro σ' H' ⟨i, l, m, v, rfl, rfl, h3, h4, h5, h6⟩
    have hu : upd H st (five c (i : Int) l m (n + 1)) st = some (five c (i : Int) l m (n + 1)) := upd_same
    have mk : ∀ (i : Nat) (l m : Int), i ≤ cs.length → 0 ≤ l → 0 ≤ m → m < 2147483647 → Sta (upd H st (five c (i : Int) l m (n + 1))) st c (b + 1) := fun i l m h3 h4 h5 h6 =>
      ⟨cs, i, l, m, n + 1, upd_same, by rw [er_upd]; exact h2, h3, h4, h5, h6, by omega, by omega, hb1⟩
    refine ⟨_, rfl, _, _, _, _, rfl, rfl, SqL.of hu, rfl, _, _, rfl, rfl, _, rfl, ?_⟩
    refine ite2 (fun hl => ?_) (fun hl => ?_)
    · refine ⟨_, rfl, _, _, _, _, rfl, rfl, SqL.of hu, rfl, .inl ⟨_, rfl, _, rfl, _, _, rfl, rfl, hm0, ?_⟩⟩
      refine ⟨_, rfl, _, _, _, _, rfl, rfl, SqL.of hu, rfl, _, rfl, _, _, rfl, rfl, ⟨hm0, by omega⟩, _, rfl, _, _, _, _, rfl, rfl, hu, rfl, ?_⟩
      refine cast_heap (b := upd H st (five c (i : Int) (l / many) m (n + 1))) upd_upd ?_
      refine ⟨_, rfl, ?_⟩
      exact k _ _ (Int.emod_nonneg _ (by omega)) (Int.emod_lt_of_pos _ hm0) (mk i (l / many) m h3 (Int.ediv_nonneg h4 (by omega)) h5 h6)
    · have hp : ∀ x : Int, 0 ≤ x → x < 10000000000 → (0 : Int) ≤ 3 ∧ (3 : Int) ≤ 1000000 ∧ x.natAbs < 2 ^ 64 := fun x a b => ⟨by omega, by omega, by omega⟩
      walk_at "rd"
      exact k _ _ (Int.emod_nonneg _ (by omega)) (Int.emod_lt_of_pos _ hm0) (mk i l m h3 h4 h5 h6)
theorem ok_fresh (T : Txt K mg A) : FnOk P w K mg base CX0 1 A.a__law_fresh A.d__law_fresh P__law_fresh (spFresh K) := by
  refine T.f__law_fresh.ok sc__law_fresh (fun vs H Q E h => ?_) (fun cdv A' outer s H vs Q E hr h => ?_)
  · obtain ⟨a, ns, rfl, _⟩ := h
    rfl
  · obtain ⟨a, ns, rfl, hS, k⟩ := h
    refine ⟨_, (pss_one (ps_ret (pe_lst (pa_cons (pe_callTy call_list_of (by rfl) T.list (by decide +kernel) (pa_cons (pe_slice sl_list (pv 0) po_none (po_some pe_int)) pa_nil)) (pa_cons pe_int (pa_cons pe_int (pa_cons pe_int (pa_cons pe_int pa_nil)))))))), ?_⟩
    refine ⟨_, rfl, _, rfl, _, _, rfl, hS, fun p hp => ⟨_, _, rfl, .inl (SqL.of upd_same), fun c hc => ⟨by show 5 ≤ sizeLine; decide, fun st hst => ?_⟩⟩⟩
    have s1 : Same H (upd (upd H p (.lst (cutV (ns.map V.int) none (some 40)))) c (.lst (cutV (ns.map V.int) none (some 40)))) := (Same.new hp).trans (Same.new hc)
    have hst0 : H st = none := s1.free hst
    have ec : cutV (ns.map V.int) none (some 40) = (ns.take 40).map V.int := by
      unfold cutV
      rw [HT.sIx_none, show ((40 : Int)) = ((40 : Nat) : Int) from rfl, HT.sIx_nat]
      rw [List.drop_zero, Nat.sub_zero, List.map_take, List.length_map]
      by_cases h40 : 40 ≤ ns.length
      · rw [Nat.min_eq_left h40]
      · rw [Nat.min_eq_right (by omega), List.take_of_length_le (by simp), List.take_of_length_le (by simp; omega)]
    have hcs : c ≠ st := fun e => by rw [← e, upd_same] at hst; cases hst
    refine k st c _ (fun b o e => er_of (fun z => by rw [z, hst0] at e; cases e) (by rw [upd_ne (fun z => by rw [z, hst0] at e; cases e)]; exact s1 _ _ e)) ?_
    refine ⟨ns.take 40, 0, 0, 0, 0, upd_same, er_of hcs ?_, Nat.zero_le _, Int.le_refl _, Int.le_refl _, by decide, Int.le_refl _, Int.le_refl _, by decide⟩
    rw [upd_ne hcs, upd_same, ec]
theorem ok_one (T : Txt K mg A) : FnOk P w K mg base CX0 2 A.a__law_one A.d__law_one P__law_one (spOne K) := by
  have G__law_take : FnOk P w K mg base CX0 1 A.a__law_take A.d__law_take P__law_take spTake := ok_take T
  refine T.f__law_one.ok sc__law_one (fun vs H Q E h => ?_) (fun cdv A' outer s H vs Q E hr h => ?_)
  · obtain ⟨st, c, t, xs, b, rfl, _⟩ := h
    rfl
  · obtain ⟨st, c, t, xs, b, rfl, S, hb, hS, h0, h1, k⟩ := h
    refine ⟨_, (pss_one (ps_ret (pe_ix ix_list (pv 1) (pe_call G__law_take (hr.mono (by omega)) (by rfl) T.g__law_take T.f__law_take.kp T.b__law_take .nil pass0 (pa_cons (pv 0) (pa_cons (pe_callB call_len_seq (by rfl) T.len PySem.boot_len (pa_cons (pv 1) pa_nil)) pa_nil))) (fun _ _ => rfl)))), ?_⟩
    refine ⟨_, rfl, _, rfl, _, rfl, _, _, rfl, .inl (sqEr hS), st, c, _, b, rfl, S, hb, by omega, by omega, fun r o hr0 hr1 S' => ?_⟩
    have g := Gs.of_upd S'
    have hi : r.toNat < xs.length := by omega
    refine ⟨_, _, _, _, rfl, rfl, sqEr (sqUp hS g.same), at_of (j := r.toNat) (by omega) (List.getElem?_eq_getElem hi), ?_⟩
    exact k r.toNat _ _ (List.getElem?_eq_getElem hi) g
end
end K5
set_option Elab.async false
set_option linter.all false
set_option maxRecDepth 100000
set_option maxHeartbeats 4000000
namespace K5
open PySem L2
local macro_rules | `(tactic| walk_at "rd1") => `(tactic| first
  | refine ⟨_, _, rfl, rfl, ?_⟩
  | refine ⟨_, _, _, _, rfl, rfl, SqL.of (by assumption), rfl, ?_⟩
  | refine ⟨_, _, _, _, rfl, rfl, (by assumption), rfl, ?_⟩
  | refine .inl ⟨_, rfl, ?_⟩
  | refine ⟨_, rfl, ?_⟩
  | refine ⟨(by unfold CMul; omega), ?_⟩
  | refine ⟨(by unfold CPow; omega), ?_⟩
  | refine ⟨(by (try dsimp only); omega), ?_⟩
  | refine ⟨(by unfold CDiv; omega), ?_⟩
  | fail "rd1")
local macro_rules | `(tactic| walk_at "rd") => `(tactic| repeat' (walk_at "rd1"))
section
variable {P : Program} {w : World} {K : PySem.W.Frag} {mg : Str → Option Value} {base : Heap} {A : Ad}

theorem stUp {H H' : Hp} {a : Addr} {xs : List V} (h : SqT K H a xs) (s : Same H H') : SqT K H' a xs := by
  rcases h with (h | ⟨o, h⟩) | h
  · exact .inl (.inl (s _ _ h))
  · exact .inl (.inr ⟨o, s _ _ h⟩)
  · exact .inr h
theorem map_erase {α β : Type} (g : α → β) :
    ∀ (l : List α) (j : Nat), (l.eraseIdx j).map g = (l.map g).eraseIdx j
  | [], _ => rfl
  | _ :: _, 0 => rfl
  | a :: l, j + 1 => congrArg (g a :: ·) (map_erase g l j)
theorem erase_perm {α : Type} : ∀ {ls : List α} {i : Nat} {y : α}, ls[i]? = some y → (y :: ls.eraseIdx i).Perm ls
  | a :: l, 0, y, h => by
    have e : a = y := Option.some.inj h
    rw [e]
    exact List.Perm.refl _
  | a :: l, i + 1, y, h => (List.Perm.swap a y (l.eraseIdx i)).trans ((erase_perm (ls := l) (i := i) (y := y) h).cons a)
  | [], i, y, h => by simp at h
theorem seqIx {r : Int} {n : Nat} (h0 : 0 ≤ r) (h1 : r < (n : Int)) : seqIndex? r n = some r.toNat := by
  unfold seqIndex?
  have e : ¬ r < 0 := by omega
  simp only [e, if_false]
  have : ((0 : Int) ≤ r && r < (n : Int)) = true := by simp [h0, h1]
  simp [h0, h1]
mutual
theorem dpSame {H H' : Hp} (s : Same H H') : ∀ {v : V} {d : PyData}, Dp K H v d → Dp K H' v d
  | _, _, .non => .non
  | _, _, .bl b => .bl b
  | _, _, .int i => .int i
  | _, _, .str x => .str x
  | _, _, .lst h q => .lst (s.seq h) (dpAllSame s q)
  | _, _, .tup h q => .tup (stUp h s) (dpAllSame s q)
theorem dpAllSame {H H' : Hp} (s : Same H H') : ∀ {vs : List V} {ds : List PyData}, DpAll K H vs ds → DpAll K H' vs ds
  | _, _, .nil => .nil
  | _, _, .cons a b => .cons (dpSame s a) (dpAllSame s b)
end
theorem dpStrs {H : Hp} : ∀ ss : List Str, DpAll K H (ss.map V.str) (ss.map PyData.str)
  | [] => .nil
  | s :: ss => .cons (.str s) (dpStrs ss)
theorem strs_lay : ∀ {ss : List Str}, (∀ s ∈ ss, PyData.strOk s = true) → PyData.canLayAll0 (ss.map PyData.str) = true
  | [], _ => by simp [PyData.canLayAll0]
  | s :: ss, h => by
    simp only [List.map_cons, PyData.canLayAll0, PyData.canLay0, h s (List.mem_cons_self ..), Bool.true_and]
    exact strs_lay fun t ht => h t (List.mem_cons_of_mem _ ht)
theorem strs_depth : ∀ ss : List Str, PyData.depthAll (ss.map PyData.str) = 0
  | [] => by simp [PyData.depthAll]
  | s :: ss => by simp only [List.map_cons, PyData.depthAll, PyData.depth, strs_depth ss]; rfl
theorem strs_shaped {ss : List Str} (h : ∀ s ∈ ss, PyData.strOk s = true) : SeqAt.shaped (.list (ss.map PyData.str)) = true := by
  show (PyData.canLay0 (.list (ss.map PyData.str)) && decide (PyData.depth (.list (ss.map PyData.str)) ≤ 64)) = true
  rw [Bool.and_eq_true]
  refine ⟨by simp only [PyData.canLay0]; exact strs_lay h, decide_eq_true ?_⟩
  simp only [PyData.depth, strs_depth]
  decide
theorem eqv_strs_nil : ∀ ss : List Str, PyData.eqv (.list (ss.map PyData.str)) (.list []) = ss.isEmpty
  | [] => by simp [PyData.eqv, PyData.eqvAll]
  | s :: ss => by simp [PyData.eqv, PyData.eqvAll]
theorem perm_move {α : Type} {fs ls : List α} {i : Nat} {y : α} (h : ls[i]? = some y) : (fs ++ [y] ++ ls.eraseIdx i).Perm (fs ++ ls) := by
  rw [List.append_assoc]
  exact List.Perm.append_left fs (erase_perm h)
theorem ok_mix (T : Txt K mg A) : FnOk P w K mg base CX0 2 A.a__law_mix A.d__law_mix P__law_mix (spMix K) := by
  have G__law_take : FnOk P w K mg base CX0 1 A.a__law_take A.d__law_take P__law_take spTake := ok_take T
  refine T.f__law_mix.ok sc__law_mix (fun vs H Q E h => ?_) (fun cdv A' outer s H vs Q E hr h => ?_)
  · obtain ⟨st, c, t, ss, b, rfl, _⟩ := h
    rfl
  · obtain ⟨st, c, t, ss, b, rfl, S, hb, hS, hl, hok, k⟩ := h
    refine ⟨_, (pss_cons (ps_par (i := 2) (j := 3) (by rfl) sc__law_mix.nd rfl rfl (by decide) rfl rfl (pa_cons (pe_callTy call_list_of (by rfl) T.list (by decide +kernel) (pa_cons (pv 1) pa_nil)) (pa_cons (pe_lst pa_nil) pa_nil)) (by rfl))
 (pss_cons (ps_while PassesOwn.never (pt_cmpR (op_neD hr.units) (pv 2) (pe_lst pa_nil) (nomark _))
 (pss_one (ps_expr (pe_bm PySem.F.plainAttrs_list PySem.F.slot_list_append PySem.F.type_list_append mt_append (pv 3) (pa_cons (pe_bm PySem.F.plainAttrs_list PySem.F.slot_list_pop PySem.F.type_list_pop mt_popAt (pv 2) (pa_cons (pe_call G__law_take (hr.mono (by omega)) (by rfl) T.g__law_take T.f__law_take.kp T.b__law_take .nil pass0 (pa_cons (pv 0) (pa_cons (pe_callB call_len_seq (by rfl) T.len PySem.boot_len (pa_cons (pv 2) pa_nil)) pa_nil))) pa_nil)) pa_nil)))))
 (pss_one (ps_ret (pv 3))))), ?_⟩
    refine ⟨_, rfl, _, _, rfl, .inl (sqEr hS), fun left nl => ⟨Nat.zero_le _, fun fnd nf => ⟨_, _, rfl, ?_⟩⟩⟩
    have nls : left ≠ st := S.ne nl
    have nf0 : H fnd = none := (Same.new nl).free nf
    have nfs : fnd ≠ st := S.ne nf0
    have nlf : left ≠ fnd := ne_of_none upd_same nf
    have el : er H st left = none := er_none nl
    have ef : er H st fnd = none := er_none nf0
    have g0 : Gs st c H (upd (upd H left (.lst (ss.map V.str))) fnd (.lst [])) b := (Gs.refl S).set S.hc el nls |>.set S.hc ef nfs
    refine while_ex (fun mm σ' H' => ∃ (ls fs : List Str), σ' = [some (.ref st), some (.ref t), some (.ref left), some (.ref fnd)] ∧ H' left = some (.lst (ls.map V.str)) ∧ H' fnd = some (.lst (fs.map V.str)) ∧ (fs ++ ls).Perm ss ∧ Gs st c H H' (b + (fs.length : Int)) ∧ mm = ls.length)
      (fun σ' H' => ∃ (fs : List Str), σ' = [some (.ref st), some (.ref t), some (.ref left), some (.ref fnd)] ∧ H' fnd = some (.lst (fs.map V.str)) ∧ fs.Perm ss ∧ Gs st c H H' (b + (fs.length : Int)))
      ⟨ss, [], rfl, by rw [upd_ne nlf, upd_same], by rw [upd_same]; rfl, List.Perm.refl _, by simpa using g0, rfl⟩ (fun nx hnx => ?_) ?_
    · rintro mm σ' H' ⟨ls, fs, rfl, h1, h2, hp, g, rfl⟩
      have hpl : fs.length + ls.length = ss.length := by rw [← List.length_append]; exact hp.length_eq
      have hls : ∀ s ∈ ls, PyData.strOk s = true := fun s hs => hok s (hp.mem_iff.mp (List.mem_append_right _ hs))
      refine ⟨_, rfl, Nat.zero_le _, fun e he => ⟨.list (ls.map PyData.str), .list [], ?_⟩⟩
      have h1' : upd H' e (.lst []) left = some (.lst (ls.map V.str)) := Same.new he _ _ h1
      have h2' : upd H' e (.lst []) fnd = some (.lst (fs.map V.str)) := Same.new he _ _ h2
      have g' : Gs st c H (upd H' e (.lst [])) (b + (fs.length : Int)) := g.new he
      refine ⟨.lst (SqL.of h1') (dpStrs ls), .lst (SqL.of upd_same) .nil, strs_shaped hls, by decide +kernel, _, rfl, ?_⟩
      rw [eqv_strs_nil]
      refine ite2 (fun hne => ?_) (fun hne => ?_)
      · have hpos : 0 < ls.length := by
          cases ls with
          | nil => cases hne
          | cons _ _ => exact Nat.succ_pos _
        refine ⟨_, fun _ _ z => z, ?_⟩
        refine ⟨_, rfl, .inl ⟨rfl, _, SqL.of h2'⟩, _, rfl, .inl ⟨rfl, _, SqL.of h1'⟩, _, rfl, _, rfl, _, _, rfl, .inl (SqL.of h1'), st, c, _, _, rfl, g'.sta, by omega, by rw [List.length_map]; omega, by rw [List.length_map]; omega, fun r o hr0 hr1 S' => ?_⟩
        rw [List.length_map] at hr1
        have g2 : Gs st c H (upd (upd H' e (.lst [])) st o) (b + (fs.length : Int) + 1) := g'.trans (Gs.of_upd S')
        have h1'' : upd (upd H' e (.lst [])) st o left = some (.lst (ls.map V.str)) := by rw [upd_ne nls]; exact h1'
        have h2'' : upd (upd H' e (.lst [])) st o fnd = some (.lst (fs.map V.str)) := by rw [upd_ne nfs]; exact h2'
        have hi : r.toNat < ls.length := by omega
        have hy : ls[r.toNat]? = some ls[r.toNat] := List.getElem?_eq_getElem hi
        refine ⟨_, _, _, r.toNat, _, rfl, rfl, h1'', by omega, by omega, ?_, by rw [List.getElem?_map, hy]; rfl, ?_⟩
        · rw [List.length_map]
          exact seqIx hr0 hr1
        · refine ⟨_, _, _, rfl, rfl, (by rw [upd_ne nlf.symm]; exact h2''), by rw [List.length_map]; exact Nat.lt_of_le_of_lt (show fs.length ≤ 64 by omega) (by decide), ?_⟩
          refine ⟨(ls.eraseIdx r.toNat).length, ?_, ls.eraseIdx r.toNat, fs ++ [ls[r.toNat]], rfl, ?_, ?_, (perm_move hy).trans hp, ?_, rfl⟩
          · rw [List.length_eraseIdx_of_lt hi]; omega
          · rw [upd_ne nlf, upd_same, map_erase]
          · rw [upd_same, List.map_append]; rfl
          · rw [List.length_append]
            refine Gs.le ((g2.set S.hc el nls).set S.hc ef nfs) (by simp; omega) (by simp; omega)
      · have hnil : ls = [] := by
          cases ls with
          | nil => rfl
          | cons _ _ => exact absurd rfl hne
        subst hnil
        exact hnx _ _ ⟨fs, rfl, h2', by rw [List.append_nil] at hp; exact hp, g'⟩
    · rintro σ' H' ⟨fs, rfl, h2, hp, g⟩
      refine ⟨_, rfl, k fnd fs H' hp (g.le (by have := hp.length_eq; omega) hb) (er_of nfs h2) ef⟩
end
end K5
set_option Elab.async false
set_option linter.all false
set_option maxRecDepth 100000
set_option maxHeartbeats 4000000
namespace K5
open PySem L2
local macro_rules | `(tactic| walk_at "rd1") => `(tactic| first
  | refine ⟨_, _, rfl, rfl, ?_⟩
  | refine ⟨_, _, _, _, rfl, rfl, SqL.of (by assumption), rfl, ?_⟩
  | refine ⟨_, _, _, _, rfl, rfl, (by assumption), rfl, ?_⟩
  | refine .inl ⟨_, rfl, ?_⟩
  | refine ⟨_, rfl, ?_⟩
  | refine ⟨(by unfold CMul; omega), ?_⟩
  | refine ⟨(by unfold CPow; omega), ?_⟩
  | refine ⟨(by (try dsimp only); omega), ?_⟩
  | refine ⟨(by unfold CDiv; omega), ?_⟩
  | fail "rd1")
local macro_rules | `(tactic| walk_at "rd") => `(tactic| repeat' (walk_at "rd1"))
section
variable {P : Program} {w : World} {K : PySem.W.Frag} {mg : Str → Option Value} {base : Heap} {A : Ad}

def pool1 : List Str := ["a", "b", "rice", "fish", "start", "done", "wish", "zz"]
def pool2 : List Str := ["station", "clocks", "abcdefgh", "meal", "go", "wait", "cloc", "on"]
def pool : List Str := ["a", "b", "rice", "fish", "start", "done", "wish", "zz", "station", "clocks", "abcdefgh", "meal", "go", "wait", "cloc", "on"]
theorem pool_nodup : pool.Nodup := by decide +kernel
theorem pool_ok : ∀ s ∈ pool, PyData.strOk s = true := by decide +kernel
def spNames (K : PySem.W.Frag) : Sp := fun vs H Q _ => ∃ (st c : Addr) (b : Int) (n : Nat), vs = [.ref st, .int n] ∧ Sta H st c b ∧ b + 64 ≤ 1000000 ∧ n ≤ 16 ∧
  ∀ (p : Addr) (ys : List Str) (H' : Hp), ys.Nodup → (∀ s ∈ ys, s ∈ pool) → ys.length = n → Gs st c H H' (b + 64) → er H' st p = some (.lst (ys.map V.str)) → er H st p = none → Q (.ref p) H'
theorem ok_names (T : Txt K mg A) : FnOk P w K mg base CX0 3 A.a__law_names A.d__law_names P__law_names (spNames K) := by
  have G__law_mix : FnOk P w K mg base CX0 2 A.a__law_mix A.d__law_mix P__law_mix (spMix K) := ok_mix T
  refine T.f__law_names.ok sc__law_names (fun vs H Q E h => ?_) (fun cdv A' outer s H vs Q E hr h => ?_)
  · obtain ⟨st, c, b, n, rfl, _⟩ := h
    rfl
  · obtain ⟨st, c, b, n, rfl, S, hb, hn, k⟩ := h
    refine ⟨_, (pss_cons (ps_set (i := 2) sc__law_names.nd rfl (Or.inl rfl) (pe_lst (pa_cons pe_str (pa_cons pe_str (pa_cons pe_str (pa_cons pe_str (pa_cons pe_str (pa_cons pe_str (pa_cons pe_str (pa_cons pe_str pa_nil))))))))))
 (pss_one (ps_ret (pe_slice sl_list (pe_call G__law_mix (hr.mono (by omega)) (by rfl) T.g__law_mix T.f__law_mix.kp T.b__law_mix .nil pass0 (pa_cons (pv 0) (pa_cons (pe_op op_cat (pv 2) (pe_lst (pa_cons pe_str (pa_cons pe_str (pa_cons pe_str (pa_cons pe_str (pa_cons pe_str (pa_cons pe_str (pa_cons pe_str (pa_cons pe_str pa_nil)))))))))) pa_nil))) po_none (po_some (pv 1)))))), ?_⟩
    refine ⟨by show 8 ≤ sizeLine; decide, fun p hp => ?_⟩
    refine ⟨_, rfl, _, rfl, by show 8 ≤ sizeLine; decide, fun q hq => ?_⟩
    have g1 : Gs st c H (upd (upd H p (.lst (pool1.map V.str))) q (.lst (pool2.map V.str))) b := ((Gs.refl S).new hp).new hq
    have h1 : upd (upd H p (.lst (pool1.map V.str))) q (.lst (pool2.map V.str)) p = some (.lst (pool1.map V.str)) := by
      rw [upd_ne (ne_of_none upd_same hq), upd_same]
    refine ⟨_, _, _, _, rfl, rfl, h1, upd_same, by show 16 ≤ sizeLine; decide, fun t ht => ?_⟩
    have nt := g1.sta.ne ht
    have g0 : Gs st c H (upd (upd (upd H p (.lst (pool1.map V.str))) q (.lst (pool2.map V.str))) t (.lst (pool1.map V.str ++ pool2.map V.str))) b := g1.new ht
    refine ⟨st, c, t, pool, b, rfl, g0.sta, hb, SqL.of (er_of nt upd_same), by decide, pool_ok, fun l ys H' hperm g hl hl0 => ?_⟩
    refine ⟨_, rfl, _, rfl, _, _, rfl, SqL.of ((er_same _ _) _ _ hl), fun d hd => ?_⟩
    have hlen : ys.length = 16 := by rw [hperm.length_eq]; rfl
    have ec : cutV (ys.map V.str) none (some (n : Int)) = (ys.take n).map V.str := by
      unfold cutV
      rw [HT.sIx_none, HT.sIx_nat, List.drop_zero, Nat.sub_zero, List.map_take, List.length_map, hlen, Nat.min_eq_left hn]
    have g3 : Gs st c H (upd H' d (.lst (cutV (ys.map V.str) none (some (n : Int))))) (b + 64) := (g0.trans g).new hd
    have hnd : ys.Nodup := hperm.nodup_iff.mpr pool_nodup
    refine k d (ys.take n) _ (hnd.sublist (List.take_sublist _ _)) (fun s hs => hperm.mem_iff.mp (List.mem_of_mem_take hs)) (by rw [List.length_take]; omega) g3 (er_of (g.sta.ne hd) ?_) ?_
    · rw [upd_same, ec]
    · have e0 := er_none (st := st) hd
      exact ((g0.trans g).same).free e0
end
end K5
set_option Elab.async false
set_option linter.all false
set_option maxRecDepth 100000
set_option maxHeartbeats 4000000
namespace K5
open PySem L2
local macro_rules | `(tactic| walk_at "rd1") => `(tactic| first
  | refine ⟨_, _, rfl, rfl, ?_⟩
  | refine ⟨_, _, _, _, rfl, rfl, SqL.of (by assumption), rfl, ?_⟩
  | refine ⟨_, _, _, _, rfl, rfl, (by assumption), rfl, ?_⟩
  | refine .inl ⟨_, rfl, ?_⟩
  | refine ⟨_, rfl, ?_⟩
  | refine ⟨(by unfold CMul; omega), ?_⟩
  | refine ⟨(by unfold CPow; omega), ?_⟩
  | refine ⟨(by (try dsimp only); omega), ?_⟩
  | refine ⟨(by unfold CDiv; omega), ?_⟩
  | fail "rd1")
local macro_rules | `(tactic| walk_at "rd") => `(tactic| repeat' (walk_at "rd1"))
section
variable {P : Program} {w : World} {K : PySem.W.Frag} {mg : Str → Option Value} {base : Heap} {A : Ad}

/-! ### data, and whether two are the same -/
def kindOf : PyData → String
  | .none => "NoneType"
  | .bool _ => "bool"
  | .int _ => "int"
  | .str _ => "str"
  | .list _ => "list"
  | .tuple _ => "tuple"
  | .dict _ => "dict"
theorem tyL {H : Hp} {a : Addr} {xs : List V} (h : SqL K H a xs) : TyX K H (.ref a) (.type "list") := by
  rcases h with (h | ⟨o, h⟩) | ⟨o, _, _, h1, h2, _⟩
  · exact .base (.lst h)
  · exact .base (.frz h)
  · exact .kList h1 h2
theorem tyT {H : Hp} {a : Addr} {xs : List V} (h : SqT K H a xs) : TyX K H (.ref a) (.type "tuple") := by
  rcases h with (h | ⟨o, h⟩) | ⟨o, _, _, h1, h2, _⟩
  · exact .base (.tup h)
  · exact .fTuple h
  · exact .kTuple h1 h2
theorem tyD {H : Hp} {v : V} {d : PyData} (h : Dp K H v d) : TyX K H v (.type (kindOf d)) := by
  cases h with
  | non => exact .base .non
  | bl b => exact .base (.bl b)
  | int i => exact .base (.int i)
  | str x => exact .base (.str x)
  | lst h _ => exact tyL h
  | tup h _ => exact tyT h
theorem kit2 {K : PySem.W.Frag} {a b c : String} {r s : Bool} (h : kitB a b = some r) (k : kitB a c = some s) : PySem.W.kitAny K (.type a) [.type b, .type c] = some (r || s) := by
  cases r with
  | true => exact kitAny_cons (kit_ty h) (fun z => nomatch z) (fun _ => rfl)
  | false => 
    refine kitAny_cons (kit_ty h) (fun _ => ?_) (fun z => nomatch z)
    cases s with
    | true => exact kitAny_cons (kit_ty k) (fun z => nomatch z) (fun _ => rfl)
    | false => exact kitAny_cons (kit_ty k) (fun _ => kitAny_nil) (fun z => nomatch z)
theorem kit3 {K : PySem.W.Frag} {a b c d : String} {r s t : Bool} (h : kitB a b = some r) (k : kitB a c = some s) (m : kitB a d = some t) : PySem.W.kitAny K (.type a) [.type b, .type c, .type d] = some (r || (s || t)) := by
  cases r with
  | true => exact kitAny_cons (kit_ty h) (fun z => nomatch z) (fun _ => rfl)
  | false =>
    have e := kit2 (K := K) k m
    rw [Bool.false_or]
    exact kitAny_cons (kit_ty h) (fun _ => e) (fun z => nomatch z)
theorem dpGet {H : Hp} : ∀ {vs : List V} {ds : List PyData} {i : Nat} {v : V}, DpAll K H vs ds → vs[i]? = some v → ∃ d, ds[i]? = some d ∧ Dp K H v d
  | _, _, 0, v, .cons a _, h => ⟨_, rfl, by rw [← Option.some.inj h]; exact a⟩
  | _, _, i + 1, v, .cons _ b, h => dpGet (i := i) b h
  | _, _, i, v, .nil, h => by simp at h
theorem dpLen {H : Hp} : ∀ {vs : List V} {ds : List PyData}, DpAll K H vs ds → vs.length = ds.length
  | _, _, .nil => rfl
  | _, _, .cons _ b => congrArg (· + 1) (dpLen b)
theorem walk_zipT {a b : Addr} {xs ys : List V} {n : Nat} (hn : n = min xs.length ys.length) : Walk (RZ.ItzT K a b) n (fun H => SqT K H a xs ∧ SqT K H b ys) (YPair (fun i => xs[i]?) (fun i => ys[i]?)) := by
  subst hn
  refine ⟨fun i H hi q => ⟨xs, ys, _, _, q.1, q.2, List.getElem?_eq_getElem (by omega), List.getElem?_eq_getElem (by omega)⟩, fun H q => ⟨xs, ys, q.1, q.2, by omega⟩, fun i H v H' hi q y => ?_⟩
  obtain ⟨T, x, z, e1, e2, e3, e4, e5⟩ := y
  exact ⟨T, x, z, e1, e2, e3, e4 _ q.1, e5 _ q.2⟩
mutual
/-- no list in it has more than a thousand things -/
def wid : PyData → Bool
  | .list xs | .tuple xs => decide (xs.length ≤ 1000) && widAll xs
  | _ => true
def widAll : List PyData → Bool
  | [] => true
  | x :: xs => wid x && widAll xs
end
theorem widAll_mem : ∀ {ds : List PyData} {d : PyData}, widAll ds = true → d ∈ ds → wid d = true
  | x :: xs, d, h, m => by
    simp only [widAll, Bool.and_eq_true] at h
    rcases List.mem_cons.mp m with e | m
    · rw [e]; exact h.1
    · exact widAll_mem h.2 m
theorem wid_parts {xs : List PyData} (h : wid (.list xs) = true ∨ wid (.tuple xs) = true) : xs.length ≤ 1000 ∧ widAll xs = true := by
  simp only [wid, Bool.and_eq_true, decide_eq_true_eq, or_self] at h
  exact h
/-- the promise of «same» for data of a depth below n -/
def spSame (K : PySem.W.Frag) (n : Nat) : Sp := fun vs H Q _ => ∃ (x y : V) (d : PyData), vs = [x, y] ∧ Dp K H x d ∧ Dp K H y d ∧ d.depth < n ∧ wid d = true ∧ ∀ H', Same H H' → Q (.bl true) H'
theorem no_fn {f : Addr} {fd : FuncData} {ps : List Str} {k : Nat} {sp : Sp} (h : ∀ vs H Q E, ¬ sp vs H Q E) : FnOk P w K mg base CX0 k f fd ps sp :=
  ⟨fun vs H Q E z => (h vs H Q E z).elim, fun _ _ _ _ _ _ _ _ _ _ _ _ _ z => (h _ _ _ _ z).elim⟩
theorem same_loop {J : It} {N n : Nat} {G : Hp → Prop} {xs ys : List V} {ds : List PyData} {H : Hp} {D : Addr} {x0 y0 : V} {Qd : Hp → Prop} (wk : Walk J N G (YPair (fun i => xs[i]?) (fun i => ys[i]?))) (hx : DpAll K H xs ds) (hy : DpAll K H ys ds)
    (hd : PyData.depthAll ds < n) (hw : widAll ds = true) (hN : N ≤ 1000) (hG : ∀ H', Same H H' → G H') (hD : H D = none) (hq : ∀ H', Same H H' → H' D = some (.lst ((List.replicate N true).map V.bl)) → Qd H') :
    ∃ W : Nat → Nat → Hp → Prop, (∃ m, W 0 m (upd H D (.lst []))) ∧ ∀ i m H, W i m H →
      (J.stop i H ∧ Qd H) ∨ (J.go i H ∧ ∃ Nx : Hp → Prop, (∀ H', Nx H' → ∃ m', m' < m ∧ W (i + 1) m' H') ∧ ∀ x H', J.yld i H x H' →
        gTup K 2 (gCons (gName 2) (gCons (gName 3) gNil)) x (wipe [some x0, some y0, none, none] [2, 3]) H' fun σ2 H2 => wipe σ2 [2, 3] = wipe [some x0, some y0, none, none] [2, 3] ∧ tYes σ2 H2 fun b H3 =>
        if b = true then (tCall (spSame K n) [] E0 (tCons (tVar 2) (tCons (tVar 3) tNil))) σ2 H3 fun y H4 => ∃ acc, H4 D = some (.lst acc) ∧ acc.length < sizeLine ∧ Nx (upd H4 D (.lst (acc ++ [y]))) else Nx H3) := by
  have same_upd : ∀ {H' : Hp} {o : HO}, Same H H' → Same H (upd H' D o) := fun s b u e => by
    rw [upd_ne (ne_of_none e hD)]; exact s _ _ e
  refine lc_it wk (fun i H' => Same H H' ∧ H' D = some (.lst ((List.replicate i true).map V.bl))) ⟨Same.new hD, upd_same⟩ (fun i H' _ p => hG H' p.1) ?_ (fun H' p => hq H' p.1 p.2)
  rintro i v H' H'' hi ⟨s1, hD'⟩ ⟨T, x, y, rfl, hT, rfl, hx', hy'⟩
  obtain ⟨d, hd1, dx⟩ := dpGet hx hx'
  obtain ⟨d', hd2, dy⟩ := dpGet hy hy'
  rw [hd1] at hd2
  cases hd2
  have hdep : d.depth < n := Nat.lt_of_le_of_lt (PyData.depth_le_depthAll ds d (List.mem_of_getElem? hd1)) hd
  have s2 := s1.trans (Same.new (o := .tup [x, y]) hT)
  refine ⟨T, [x, y], rfl, SqT.of upd_same, rfl, _, _, rfl, _, _, rfl, rfl, rfl, ?_⟩
  refine ⟨_, rfl, _, rfl, x, y, d, rfl, dpSame s2 dx, dpSame s2 dy, hdep, widAll_mem hw (List.mem_of_getElem? hd1), fun H3 s3 => ?_⟩
  have hD3 : H3 D = some (.lst ((List.replicate i true).map V.bl)) := s3 _ _ (Same.new hT _ _ hD')
  refine ⟨_, hD3, by rw [List.length_map, List.length_replicate]; exact Nat.lt_of_lt_of_le hi (Nat.le_trans hN (by decide)), same_upd (s2.trans s3), ?_⟩
  rw [upd_same, List.replicate_succ', List.map_append]
  rfl
theorem all_true (n : Nat) : (List.replicate n true).all id = true := by
  induction n with
  | zero => rfl
  | succ n ih => rw [List.replicate_succ, List.all_cons, ih]; rfl
theorem ok_same (T : Txt K mg A) : ∀ n : Nat, FnOk P w K mg base CX0 n A.a__law_same A.d__law_same P__law_same (spSame K n)
  | 0 => no_fn fun vs H Q E ⟨_, _, _, _, _, _, h, _⟩ => absurd h (Nat.not_lt_zero _)
  | n + 1 => by
    have G__law_same : FnOk P w K mg base CX0 n A.a__law_same A.d__law_same P__law_same (spSame K n) := ok_same T n
    refine T.f__law_same.ok sc__law_same (fun vs H Q E h => ?_) (fun cdv A' outer s H vs Q E hr h => ?_)
    · obtain ⟨x, y, d, rfl, _⟩ := h
      rfl
    · obtain ⟨x, y, d, rfl, hx, hy, hd, hw, k⟩ := h
      refine ⟨_, (pss_cons (ps_if (pt_val (pe_callB call_isiT (by rfl) T.isinstance (by decide +kernel) (pa_cons (pv 1) (pa_cons (pe_tup (pa_cons (pe_bltn (v := .ty "list") (u := .type "list") (by rfl) T.list (by decide +kernel) rfl) (pa_cons (pe_bltn (v := .ty "tuple") (u := .type "tuple") (by rfl) T.tuple (by decide +kernel) rfl) pa_nil))) pa_nil))))
 (pss_cons (ps_if (PW.pt (pw_or (pt_cmpR op_ne (pe_callB call_isi (by rfl) T.isinstance (by decide +kernel) (pa_cons (pv 0) (pa_cons (pe_bltn (v := .ty "list") (u := .type "list") (by rfl) T.list (by decide +kernel) rfl) pa_nil))) (pe_callB call_isi (by rfl) T.isinstance (by decide +kernel) (pa_cons (pv 1) (pa_cons (pe_bltn (v := .ty "list") (u := .type "list") (by rfl) T.list (by decide +kernel) rfl) pa_nil))) (nomark _)) (pw_or1 (pt_cmpR op_ne (pe_callB call_isi (by rfl) T.isinstance (by decide +kernel) (pa_cons (pv 0) (pa_cons (pe_bltn (v := .ty "tuple") (u := .type "tuple") (by rfl) T.tuple (by decide +kernel) rfl) pa_nil))) (pe_callB call_isi (by rfl) T.isinstance (by decide +kernel) (pa_cons (pv 1) (pa_cons (pe_bltn (v := .ty "tuple") (u := .type "tuple") (by rfl) T.tuple (by decide +kernel) rfl) pa_nil))) (nomark _)))))
 (pss_one (ps_ret pe_bl))
 pss_nil)
 (pss_one (ps_ret (pe_and (pe_cmpR op_eq (pe_callB call_len_seq (by rfl) T.len PySem.boot_len (pa_cons (pv 0) pa_nil)) (pe_callB call_len_seq (by rfl) T.len PySem.boot_len (pa_cons (pv 1) pa_nil)) (nomark _)) (pe_one (pe_callB (cr_all rfl) (by rfl) T.all (by decide +kernel) (pa_cons (pe_lc (own := [("_law_x", 2), ("_law_y", 3)]) (g := gTup K 2 (gCons (gName 2) (gCons (gName 3) gNil))) (by rfl) sc__law_same.nd (RZ.pi_zipA (by rfl) T.zip (pa_cons (pv 0) (pa_cons (pv 1) pa_nil))) (blkOk_by (N := N__law_same) (sc := defScope s__law_same) (by decide +kernel)) (fun _ _ _ _ _ => (pg_tup rfl (pgs_cons (pg_name (i := 2) sc__law_same.nd rfl (Or.inl rfl)) (pgs_cons (pg_name (i := 3) sc__law_same.nd rfl (Or.inl rfl)) pgs_nil)))) (fun _ _ _ _ _ => pts_nil) (fun _ _ _ _ _ => (pe_call G__law_same (hr.mono (by omega)) (by rfl) T.g__law_same T.f__law_same.kp T.b__law_same .nil pass0 (pa_cons (pv 2) (pa_cons (pv 3) pa_nil))))) pa_nil)))))))
 pss_nil)
 (pss_cons (ps_if (pt_val (pe_callB call_isi (by rfl) T.isinstance (by decide +kernel) (pa_cons (pv 1) (pa_cons (pe_bltn (v := .ty "int") (u := .type "int") (by rfl) T.int (by decide +kernel) rfl) pa_nil))))
 (pss_one (ps_ret (pe_and (pe_callB call_isi (by rfl) T.isinstance (by decide +kernel) (pa_cons (pv 0) (pa_cons (pe_bltn (v := .ty "int") (u := .type "int") (by rfl) T.int (by decide +kernel) rfl) pa_nil))) (pe_and (pe_cmpR op_eq (pe_callB call_isi (by rfl) T.isinstance (by decide +kernel) (pa_cons (pv 0) (pa_cons (pe_bltn (v := .ty "bool") (u := .type "bool") (by rfl) T.bool (by decide +kernel) rfl) pa_nil))) (pe_callB call_isi (by rfl) T.isinstance (by decide +kernel) (pa_cons (pv 1) (pa_cons (pe_bltn (v := .ty "bool") (u := .type "bool") (by rfl) T.bool (by decide +kernel) rfl) pa_nil))) (nomark _)) (pe_one (pe_cmpR op_eq (pv 0) (pv 1) (nomark _)))))))
 pss_nil)
 (pss_one (ps_ret (pe_and (pe_cmpR op_isBl (pe_callB call_isiT (by rfl) T.isinstance (by decide +kernel) (pa_cons (pv 0) (pa_cons (pe_tup (pa_cons (pe_bltn (v := .ty "int") (u := .type "int") (by rfl) T.int (by decide +kernel) rfl) (pa_cons (pe_bltn (v := .ty "list") (u := .type "list") (by rfl) T.list (by decide +kernel) rfl) (pa_cons (pe_bltn (v := .ty "tuple") (u := .type "tuple") (by rfl) T.tuple (by decide +kernel) rfl) pa_nil)))) pa_nil))) pe_bl (nomark _)) (pe_one (pe_cmpR op_eq (pv 0) (pv 1) (nomark _)))))))), ?_⟩
      -- isinstance(due, (list, tuple))
      refine ⟨_, rfl, by show 2 ≤ sizeLine; decide, fun p hp => ?_⟩
      have s1 : Same H (upd H p (.tup [.ty "list", .ty "tuple"])) := Same.new hp
      have hx1 := dpSame s1 hx
      have hy1 := dpSame s1 hy
      cases hx with
      | non =>
        cases hy
        refine ⟨_, p, _, _, _, false, rfl, upd_same, .cons (.ty _) (.cons (.ty _) .nil), .base .non, kit2 (a := "NoneType") (b := "list") (c := "tuple") (r := false) (s := false) (by decide +kernel) (by decide +kernel), _, rfl, iteF ?_⟩
        refine ⟨_, rfl, _, _, .type "NoneType", _, false, rfl, .ty _, .base .non, kit_ty (by decide +kernel), _, rfl, iteF ?_⟩
        refine ⟨_, rfl, by show 3 ≤ sizeLine; decide, fun q hq => ⟨_, q, _, _, _, false, rfl, upd_same, .cons (.ty _) (.cons (.ty _) (.cons (.ty _) .nil)), .base .non, kit3 (a := "NoneType") (b := "int") (c := "list") (d := "tuple") (r := false) (s := false) (t := false) (by decide +kernel) (by decide +kernel) (by decide +kernel), _, _, rfl, rfl, _, rfl, iteT ⟨_, rfl, _, rfl, rfl, ?_⟩⟩⟩
        exact k _ (s1.trans (Same.new hq))
      | str z =>
        cases hy
        refine ⟨_, p, _, _, _, false, rfl, upd_same, .cons (.ty _) (.cons (.ty _) .nil), .base (.str _), kit2 (a := "str") (b := "list") (c := "tuple") (r := false) (s := false) (by decide +kernel) (by decide +kernel), _, rfl, iteF ?_⟩
        refine ⟨_, rfl, _, _, .type "str", _, false, rfl, .ty _, .base (.str _), kit_ty (by decide +kernel), _, rfl, iteF ?_⟩
        refine ⟨_, rfl, by show 3 ≤ sizeLine; decide, fun q hq => ⟨_, q, _, _, _, false, rfl, upd_same, .cons (.ty _) (.cons (.ty _) (.cons (.ty _) .nil)), .base (.str _), kit3 (a := "str") (b := "int") (c := "list") (d := "tuple") (r := false) (s := false) (t := false) (by decide +kernel) (by decide +kernel) (by decide +kernel), _, _, rfl, rfl, _, rfl, iteT ⟨_, rfl, _, rfl, rfl, ?_⟩⟩⟩
        rw [decide_eq_true rfl]
        exact k _ (s1.trans (Same.new hq))
      | int i =>
        cases hy
        refine ⟨_, p, _, _, _, false, rfl, upd_same, .cons (.ty _) (.cons (.ty _) .nil), .base (.int _), kit2 (a := "int") (b := "list") (c := "tuple") (r := false) (s := false) (by decide +kernel) (by decide +kernel), _, rfl, iteF ?_⟩
        refine ⟨_, rfl, _, _, .type "int", _, true, rfl, .ty _, .base (.int _), kit_ty (by decide +kernel), _, rfl, iteT ?_⟩
        refine ⟨_, rfl, _, _, .type "int", _, true, rfl, .ty _, .base (.int _), kit_ty (by decide +kernel), _, rfl, iteT ?_⟩
        refine ⟨_, rfl, _, _, .type "int", _, false, rfl, .ty _, .base (.int _), kit_ty (by decide +kernel), _, rfl, _, _, .type "int", _, false, rfl, .ty _, .base (.int _), kit_ty (by decide +kernel), rfl, _, rfl, iteT ⟨_, rfl, _, rfl, rfl, ?_⟩⟩
        rw [decide_eq_true rfl]
        exact k _ s1
      | bl b =>
        cases hy
        refine ⟨_, p, _, _, _, false, rfl, upd_same, .cons (.ty _) (.cons (.ty _) .nil), .base (.bl _), kit2 (a := "bool") (b := "list") (c := "tuple") (r := false) (s := false) (by decide +kernel) (by decide +kernel), _, rfl, iteF ?_⟩
        refine ⟨_, rfl, _, _, .type "bool", _, true, rfl, .ty _, .base (.bl _), kit_ty (by decide +kernel), _, rfl, iteT ?_⟩
        refine ⟨_, rfl, _, _, .type "bool", _, true, rfl, .ty _, .base (.bl _), kit_ty (by decide +kernel), _, rfl, iteT ?_⟩
        refine ⟨_, rfl, _, _, .type "bool", _, true, rfl, .ty _, .base (.bl _), kit_ty (by decide +kernel), _, rfl, _, _, .type "bool", _, true, rfl, .ty _, .base (.bl _), kit_ty (by decide +kernel), rfl, _, rfl, iteT ⟨_, rfl, _, rfl, rfl, ?_⟩⟩
        rw [decide_eq_true rfl]
        exact k _ s1
      | lst hL hA =>
        cases hy with
        | lst hL2 hA2 =>
          obtain ⟨w1, w2⟩ := wid_parts (.inl hw)
          have l1 := dpLen hA
          have l2 := dpLen hA2
          have t1 := tyL (sqUp hL s1)
          have t2 := tyL (sqUp hL2 s1)
          refine ⟨_, p, _, _, _, true, rfl, upd_same, .cons (.ty _) (.cons (.ty _) .nil), t2, kit2 (a := "list") (b := "list") (c := "tuple") (r := true) (s := false) (by decide +kernel) (by decide +kernel), _, rfl, iteT ?_⟩
          refine ⟨_, rfl, _, _, .type "list", _, true, rfl, .ty _, t1, kit_ty (by decide +kernel), _, rfl, _, _, .type "list", _, true, rfl, .ty _, t2, kit_ty (by decide +kernel), rfl, _, rfl, iteF ?_⟩
          refine ⟨_, rfl, _, _, .type "list", _, false, rfl, .ty _, t1, kit_ty (by decide +kernel), _, rfl, _, _, .type "list", _, false, rfl, .ty _, t2, kit_ty (by decide +kernel), rfl, _, rfl, iteF ?_⟩
          refine ⟨_, rfl, _, _, rfl, .inl (sqUp hL s1), _, rfl, _, _, rfl, .inl (sqUp hL2 s1), rfl, true, ?_, iteT ?_⟩
          · rw [decide_eq_true (by rw [l1, l2])]
          · refine ⟨_, rfl, _, rfl, _, _, _, _, rfl, .inl ⟨sqUp hL s1, sqUp hL2 s1, fun D hD => same_loop (walk_zip rfl) (dpAllSame s1 hA) (dpAllSame s1 hA2) (by simp only [PyData.depth] at hd; omega) w2 (by omega) (fun H' s' => ⟨sqUp hL (s1.trans s'), sqUp hL2 (s1.trans s')⟩) hD (fun H' s' hD' => ?_)⟩⟩
            refine ⟨D, _, rfl, SqL.of hD', ?_⟩
            rw [all_true]
            exact k _ (s1.trans s')
      | tup hL hA =>
        cases hy with
        | tup hL2 hA2 =>
          obtain ⟨w1, w2⟩ := wid_parts (.inr hw)
          have l1 := dpLen hA
          have l2 := dpLen hA2
          have t1 := tyT (stUp hL s1)
          have t2 := tyT (stUp hL2 s1)
          refine ⟨_, p, _, _, _, true, rfl, upd_same, .cons (.ty _) (.cons (.ty _) .nil), t2, kit2 (a := "tuple") (b := "list") (c := "tuple") (r := false) (s := true) (by decide +kernel) (by decide +kernel), _, rfl, iteT ?_⟩
          refine ⟨_, rfl, _, _, .type "tuple", _, false, rfl, .ty _, t1, kit_ty (by decide +kernel), _, rfl, _, _, .type "tuple", _, false, rfl, .ty _, t2, kit_ty (by decide +kernel), rfl, _, rfl, iteF ?_⟩
          refine ⟨_, rfl, _, _, .type "tuple", _, true, rfl, .ty _, t1, kit_ty (by decide +kernel), _, rfl, _, _, .type "tuple", _, true, rfl, .ty _, t2, kit_ty (by decide +kernel), rfl, _, rfl, iteF ?_⟩
          refine ⟨_, rfl, _, _, rfl, .inr (stUp hL s1), _, rfl, _, _, rfl, .inr (stUp hL2 s1), rfl, true, ?_, iteT ?_⟩
          · rw [decide_eq_true (by rw [l1, l2])]
          · refine ⟨_, rfl, _, rfl, _, _, _, _, rfl, .inr ⟨stUp hL s1, stUp hL2 s1, fun D hD => same_loop (walk_zipT rfl) (dpAllSame s1 hA) (dpAllSame s1 hA2) (by simp only [PyData.depth] at hd; omega) w2 (by omega) (fun H' s' => ⟨stUp hL (s1.trans s'), stUp hL2 (s1.trans s')⟩) hD (fun H' s' hD' => ?_)⟩⟩
            refine ⟨D, _, rfl, SqL.of hD', ?_⟩
            rw [all_true]
            exact k _ (s1.trans s')
end
end K5
set_option Elab.async false
set_option linter.all false
set_option maxRecDepth 100000
set_option maxHeartbeats 4000000
namespace K5
open PySem L2
local macro_rules | `(tactic| walk_at "rd1") => `(tactic| first
  | refine ⟨_, _, rfl, rfl, ?_⟩
  | refine ⟨_, _, _, _, rfl, rfl, SqL.of (by assumption), rfl, ?_⟩
  | refine ⟨_, _, _, _, rfl, rfl, (by assumption), rfl, ?_⟩
  | refine .inl ⟨_, rfl, ?_⟩
  | refine ⟨_, rfl, ?_⟩
  | refine ⟨(by unfold CMul; omega), ?_⟩
  | refine ⟨(by unfold CPow; omega), ?_⟩
  | refine ⟨(by (try dsimp only); omega), ?_⟩
  | refine ⟨(by unfold CDiv; omega), ?_⟩
  | fail "rd1")
local macro_rules | `(tactic| walk_at "rd") => `(tactic| repeat' (walk_at "rd1"))
section
variable {P : Program} {w : World} {K : PySem.W.Frag} {mg : Str → Option Value} {base : Heap} {A : Ad}

/-! ### ascending names -/
def slt (x y : Str) : Prop := x.cps.toList < y.cps.toList
instance (x y : Str) : Decidable (slt x y) := inferInstanceAs (Decidable (x.cps.toList < y.cps.toList))
def sle (x y : Str) : Prop := ¬ slt y x
instance (x y : Str) : Decidable (sle x y) := inferInstanceAs (Decidable (¬ slt y x))
theorem sle_trans {x y z : Str} (a : sle x y) (b : sle y z) : sle x z :=
  fun h => (List.not_lt.mpr (List.le_trans (List.not_lt.mp a) (List.not_lt.mp b))) h
theorem sle_of_lt {x y : Str} (h : slt x y) : sle x y := fun k => List.lt_asymm h k
def rk (t : Str) (acc : List Str) : Nat := (acc.filter fun x => decide (sle x t)).length
theorem rk_le (t : Str) (acc : List Str) : rk t acc ≤ acc.length := List.length_filter_le _ _
theorem rise_perm (t : Str) (acc : List Str) (k : Nat) : (acc.take k ++ [t] ++ acc.drop k).Perm (acc ++ [t]) := by
  have h : (acc.take k ++ [t] ++ acc.drop k).Perm (acc.take k ++ acc.drop k ++ [t]) := by
    rw [List.append_assoc, List.append_assoc]
    exact List.Perm.append_left _ List.perm_append_comm
  rwa [List.take_append_drop] at h
theorem rk_zero {t : Str} : ∀ {acc : List Str}, (∀ x ∈ acc, slt t x) → rk t acc = 0
  | [], _ => rfl
  | x :: r, h => by
    have hx : decide (sle x t) = false := decide_eq_false fun k => k (h x (List.mem_cons_self ..))
    have e := rk_zero fun y hy => h y (List.mem_cons_of_mem _ hy)
    simp only [rk, List.filter_cons, hx] at e ⊢
    exact e
theorem rise_sorted (t : Str) : ∀ {acc : List Str}, acc.Pairwise sle → (acc.take (rk t acc) ++ [t] ++ acc.drop (rk t acc)).Pairwise sle
  | [], _ => by simp [rk]
  | x :: r, h => by
    rw [List.pairwise_cons] at h
    by_cases hx : sle x t
    · have e : rk t (x :: r) = rk t r + 1 := by
        simp only [rk, List.filter_cons, decide_eq_true hx, if_true, List.length_cons]
      rw [e, List.take_succ_cons, List.drop_succ_cons, List.cons_append, List.cons_append, List.pairwise_cons]
      refine ⟨fun y hy => ?_, rise_sorted t h.2⟩
      rcases List.mem_append.mp hy with hy | hy
      · rcases List.mem_append.mp hy with hy | hy
        · exact h.1 y (List.mem_of_mem_take hy)
        · rw [List.mem_singleton.mp hy]; exact hx
      · exact h.1 y (List.mem_of_mem_drop hy)
    · have lt : slt t x := Decidable.byContradiction fun k => hx k
      have e : rk t (x :: r) = 0 := rk_zero fun y hy => by
        rcases List.mem_cons.mp hy with q | q
        · rw [q]; exact lt
        · have := h.1 y q
          exact Decidable.byContradiction fun k => (sle_trans this k) lt
      rw [e, List.take_zero, List.drop_zero, List.nil_append, List.singleton_append, List.pairwise_cons]
      refine ⟨fun y hy => ?_, List.pairwise_cons.mpr h⟩
      rcases List.mem_cons.mp hy with q | q
      · rw [q]; exact sle_of_lt lt
      · exact sle_trans (sle_of_lt lt) (h.1 y q)
theorem str_at {ns : List Str} {i : Nat} {x : V} (h : (ns.map V.str)[i]? = some x) : ∃ hi : i < ns.length, x = V.str ns[i] := by
  have hi : i < ns.length := by
    have := (List.getElem?_eq_some_iff.mp h).1
    rwa [List.length_map] at this
  refine ⟨hi, ?_⟩
  rw [List.getElem?_map, List.getElem?_eq_getElem hi] at h
  exact (Option.some.inj h).symm
theorem take_map {α β : Type} (f : α → β) {xs : List α} {i : Nat} (hi : i < xs.length) : (xs.take (i + 1)).map f = (xs.take i).map f ++ [f xs[i]] := by
  rw [List.take_succ, List.getElem?_eq_getElem hi, List.map_append]; rfl
end
end K5
set_option Elab.async false
set_option linter.all false
set_option maxRecDepth 100000
set_option maxHeartbeats 4000000
namespace K5
open PySem L2
local macro_rules | `(tactic| walk_at "rd1") => `(tactic| first
  | refine ⟨_, _, rfl, rfl, ?_⟩
  | refine ⟨_, _, _, _, rfl, rfl, SqL.of (by assumption), rfl, ?_⟩
  | refine ⟨_, _, _, _, rfl, rfl, (by assumption), rfl, ?_⟩
  | refine .inl ⟨_, rfl, ?_⟩
  | refine ⟨_, rfl, ?_⟩
  | refine ⟨(by unfold CMul; omega), ?_⟩
  | refine ⟨(by unfold CPow; omega), ?_⟩
  | refine ⟨(by (try dsimp only); omega), ?_⟩
  | refine ⟨(by unfold CDiv; omega), ?_⟩
  | fail "rd1")
local macro_rules | `(tactic| walk_at "rd") => `(tactic| repeat' (walk_at "rd1"))
section
variable {P : Program} {w : World} {K : PySem.W.Frag} {mg : Str → Option Value} {base : Heap} {A : Ad}

theorem put_new : ∀ (acc : List (Key × V)) (k : Key) (v : V), k ∉ acc.map (·.1) → putK acc k v = acc ++ [(k, v)] := fun acc k v h => by
  unfold putK
  have e : (acc.any fun kv => decide (kv.1 = k)) = false := by
    rw [List.any_eq_false]
    intro p hp q
    exact h (List.mem_map.mpr ⟨p, hp, of_decide_eq_true q⟩)
  rw [e]
  rfl
/-- what is no tuple -/
def NoTup (u : HO) : Prop := (∀ zs, u ≠ .tup zs) ∧ ∀ o zs, u ≠ .frz o (.tup zs)
theorem tupEr {H : Hp} {D a : Addr} {u : HO} {xs : List V} (hD : H D = some u) (hu : NoTup u) (h : SqT K H a xs) : SqT K (er H D) a xs := by
  rcases h with (h | ⟨o, h⟩) | h
  · exact .inl (.inl (er_of (fun e => by rw [e, hD] at h; exact hu.1 _ (Option.some.inj h)) h))
  · exact .inl (.inr ⟨o, er_of (fun e => by rw [e, hD] at h; exact hu.2 _ _ (Option.some.inj h)) h⟩)
  · exact .inr h
theorem tupSet {E : Hp} {p a : Addr} {u o : HO} {xs : List V} (hp : E p = some u) (hu : NoTup u) (h : SqT K E a xs) : SqT K (upd E p o) a xs :=
  stUp (tupEr hp hu h) fun b w e => by rw [upd_ne (er_some e).1]; exact (er_some e).2
theorem noTup_dK (kvs : List (Key × V)) : NoTup (.dK kvs) := ⟨fun _ z => (nomatch z), fun _ _ z => (nomatch z)⟩
theorem not_in_take {ys : List Str} (h : ys.Nodup) {i : Nat} (hi : i < ys.length) : ys[i] ∉ ys.take i := by
  have e : ys.take (i + 1) = ys.take i ++ [ys[i]] := by rw [List.take_succ, List.getElem?_eq_getElem hi]; rfl
  have n : (ys.take i ++ [ys[i]]).Nodup := by rw [← e]; exact h.sublist (List.take_sublist _ _)
  rw [List.nodup_append] at n
  exact fun m => n.2.2 _ m _ (List.mem_singleton.mpr rfl) rfl
def spWith : Sp := fun vs H Q _ => ∃ (d : Addr) (k : Key) (v : V) (kvs : List (Key × V)), vs = [.ref d, kV k, v] ∧ Rd H d (.dK kvs) ∧ kvs.length ≤ 1000 ∧
  ∀ (p : Addr) (H' : Hp), H p = none → Same H H' → H' p = some (.dK (putK kvs k v)) → Q (.ref p) H'
theorem ok_with (T : Txt K mg A) : FnOk P w K mg base CX0 1 A.a__law_with A.d__law_with P__law_with spWith := by
  refine T.f__law_with.ok sc__law_with (fun vs H Q E h => ?_) (fun cdv A' outer s H vs Q E hr h => ?_)
  · obtain ⟨d, k, v, kvs, rfl, _⟩ := h
    rfl
  · obtain ⟨d, key, v, kvs, rfl, hd, hl, k⟩ := h
    refine ⟨_, (pss_cons (ps_set (i := 3) sc__law_with.nd rfl (Or.inl rfl) (pe_callTy call_dictD (by rfl) T.dict (by decide +kernel) (pa_cons (pv 0) pa_nil)))
 (pss_cons (ps_dput (hu_of hr) (pv 3) (pv 1) (pv 2) rfl)
 (pss_one (ps_ret (pv 3))))), ?_⟩
    refine ⟨_, rfl, d, kvs, rfl, hd, fun p hp => ?_⟩
    refine ⟨_, rfl, _, rfl, _, rfl, p, _, rfl, .inl ⟨kvs, key, upd_same, rfl, Nat.lt_of_le_of_lt hl (by decide), rfl⟩, _, rfl, k p _ hp ?_ upd_same⟩
    exact fun b u e => by rw [upd_ne (ne_of_none e hp), upd_ne (ne_of_none e hp)]; exact e
/-- dishes with bounds, as a dict that stands in E -/
structure DishD (K : PySem.W.Frag) (E : Hp) (p : Addr) (ks : List Str) (kvs : List (Key × V)) : Prop where
  at_ : E p = some (.dK kvs)
  keys : kvs.map (·.1) = ks.map Sum.inr
  vals : ∀ (i : Nat) (k : Key) (v : V), kvs[i]? = some (k, v) → ∃ (b : Addr) (l m : Int), v = .ref b ∧ SqT K E b [.int l, .int m] ∧ 1 ≤ l ∧ l ≤ m ∧ m ≤ 100000
def spDishes (K : PySem.W.Frag) : Sp := fun vs H Q _ => ∃ (st c t : Addr) (ns : List Str) (b wide : Int), vs = [.ref st, .ref t, .int wide] ∧ Sta H st c b ∧ b + 200 ≤ 1000000 ∧ SqL K (er H st) t (ns.map V.str) ∧ ns.length ≤ 64 ∧ ns.Nodup ∧ (∀ s ∈ ns, PyData.strOk s = true) ∧ 0 < wide ∧ wide ≤ 10000 ∧
  ∀ (p : Addr) (ks : List Str) (kvs : List (Key × V)) (H' : Hp), ks.Perm ns → Gs st c H H' (b + 200) → DishD K (er H' st) p ks kvs → er H st p = none → Q (.ref p) H'
theorem ok_dishes (T : Txt K mg A) : FnOk P w K mg base CX0 3 A.a__law_dishes A.d__law_dishes P__law_dishes (spDishes K) := by
  have G__law_take : FnOk P w K mg base CX0 1 A.a__law_take A.d__law_take P__law_take spTake := ok_take T
  have G__law_mix : FnOk P w K mg base CX0 2 A.a__law_mix A.d__law_mix P__law_mix (spMix K) := ok_mix T
  refine T.f__law_dishes.ok sc__law_dishes (fun vs H Q E h => ?_) (fun cdv A' outer s H vs Q E hr h => ?_)
  · obtain ⟨st, c, t, ns, b, wide, rfl, _⟩ := h
    rfl
  · obtain ⟨st, c, t, ns, b, wide, rfl, S, hb, hS, hl, hnd, hok, hw0, hw1, k⟩ := h
    refine ⟨_, (pss_cons (ps_set (i := 3) sc__law_dishes.nd rfl (Or.inl rfl) pe_dnewK)
 (pss_cons (ps_for PassesOwn.never rfl (pi_list (pe_call G__law_mix (hr.mono (by omega)) (by rfl) T.g__law_mix T.f__law_mix.kp T.b__law_mix .nil pass0 (pa_cons (pv 0) (pa_cons (pv 1) pa_nil)))) (pg_name (i := 4) sc__law_dishes.nd rfl (Or.inl rfl))
 (pss_cons (ps_set (i := 5) sc__law_dishes.nd rfl (Or.inl rfl) (pe_op op_add pe_int (pe_call G__law_take (hr.mono (by omega)) (by rfl) T.g__law_take T.f__law_take.kp T.b__law_take .nil pass0 (pa_cons (pv 0) (pa_cons pe_int pa_nil)))))
 (pss_one (ps_dput (hu_of hr) (pv 3) (pv 4) (pe_tup (pa_cons (pv 5) (pa_cons (pe_op op_add (pv 5) (pe_call G__law_take (hr.mono (by omega)) (by rfl) T.g__law_take T.f__law_take.kp T.b__law_take .nil pass0 (pa_cons (pv 0) (pa_cons (pv 2) pa_nil)))) pa_nil))) rfl))))
 (pss_one (ps_ret (pv 3))))), ?_⟩
    intro p hp
    have mp := S.ne hp
    have ep := er_none (st := st) hp
    have g0 := (Gs.refl S).new hp (o := .dK [])
    refine ⟨_, rfl, _, rfl, st, c, t, ns, b, rfl, g0.sta, by omega, sqUp hS g0.same, hl, hok, fun q ys H1 hperm g1 hq hq0 => ?_⟩
    have yN : ys.Nodup := hperm.nodup_iff.mpr hnd
    have yl : ys.length ≤ 64 := by rw [hperm.length_eq]; exact hl
    have hpH1 : H1 p = some (.dK []) := (er_same _ _) _ _ (g1.same _ _ (er_of mp upd_same))
    have g1 := g0.trans g1
    have npq : p ≠ q := ne_of hpH1 ((er_same _ _) _ _ hq) (fun z => nomatch z)
    refine ⟨q, rfl, ⟨_, SqL.of ((er_same _ _) _ _ hq)⟩, for_it (walk_list (K := K) (a := q)) (fun i σ' H' => ∃ x y kvs, σ' = [some (.ref st), some (.ref t), some (.int wide), some (.ref p), x, y] ∧ Gs st c H H' (b + 64 + 2 * (i : Int)) ∧ er H' st q = some (.lst (ys.map V.str)) ∧ DishD K (er H' st) p (ys.take i) kvs)
      ⟨_, _, [], rfl, by simpa using g1, hq, ⟨er_of mp hpH1, rfl, fun _ _ _ h => by simp at h⟩⟩ (fun i σ' H' _ z => SqL.of ((er_same _ _) _ _ z.choose_spec.choose_spec.choose_spec.2.2.1)) ?_ ?_⟩
    · rintro i v σ' H' H'' hi ⟨x, y, kvs, rfl, g, hq', hD⟩ ⟨rfl, hx⟩
      obtain ⟨hi, rfl⟩ := str_at hx
      refine ⟨_, rfl, st, c, 6, _, rfl, g.sta, by omega, by omega, by omega, fun r o hr0 hr1 S1 => ⟨_, _, rfl, rfl, ?_⟩⟩
      have g1 := g.trans (Gs.of_upd S1)
      have e1 : er (upd H'' st o) st = er H'' st := er_upd ..
      refine ⟨_, rfl, _, rfl, _, rfl, _, rfl, st, c, wide, _, rfl, g1.sta, by omega, hw0, by omega, fun r2 o2 hs0 hs1 S2 => ⟨_, _, rfl, rfl, by show 2 ≤ sizeLine; decide, fun d nd => ?_⟩⟩
      have g2 := (g1.trans (Gs.of_upd S2)).new nd (o := .tup [.int (1 + r), .int (1 + r + r2)])
      have sE : Same (er H'' st) (er (upd (upd (upd H'' st o) st o2) d (.tup [.int (1 + r), .int (1 + r + r2)])) st) := by
        have z : Same (er H'' st) (er (upd (upd H'' st o) st o2) st) := by rw [er_upd, er_upd]; exact Same.refl _
        exact z.trans (er_mono (Same.new nd))
      have md := (g1.trans (Gs.of_upd S2)).sta.ne nd
      have hd : er (upd (upd (upd H'' st o) st o2) d (.tup [.int (1 + r), .int (1 + r + r2)])) st d = some (.tup [.int (1 + r), .int (1 + r + r2)]) := er_of md upd_same
      generalize upd (upd (upd H'' st o) st o2) d (.tup [.int (1 + r), .int (1 + r + r2)]) = Ha at g2 sE hd ⊢
      have ea := sE _ _ hD.at_
      have hk : (Sum.inr ys[i] : Key) ∉ kvs.map (·.1) := by
        rw [hD.keys]
        intro m
        obtain ⟨z, hz, ez⟩ := List.mem_map.mp m
        exact not_in_take yN hi (by rw [← Sum.inr.inj ez]; exact hz)
      have kl : kvs.length = i := by
        have := congrArg List.length hD.keys
        rw [List.length_map, List.length_map, List.length_take] at this
        omega
      refine ⟨_, rfl, _, rfl, p, _, rfl, .inl ⟨kvs, .inr ys[i], (er_same _ _) _ _ ea, rfl, by rw [kl]; exact Nat.lt_of_lt_of_le (show i < 65 by omega) (by decide), rfl⟩, ?_⟩
      rw [put_new kvs _ _ hk]
      refine ⟨_, _, kvs ++ [(.inr ys[i], .ref d)], rfl, (g2.le (by omega) (by omega)).set S.hc ep mp, ?_, ?_⟩
      · rw [er_updp mp, upd_ne npq.symm]; exact sE _ _ hq'
      · rw [er_updp mp]
        refine ⟨upd_same, ?_, fun n key w hn => ?_⟩
        · rw [List.map_append, hD.keys, List.take_succ, List.getElem?_eq_getElem hi, List.map_append]; rfl
        · rcases Nat.lt_or_ge n kvs.length with lt | ge
          · rw [List.getElem?_append_left lt] at hn
            obtain ⟨b2, l, m, e1, e2, e3⟩ := hD.vals n key w hn
            exact ⟨b2, l, m, e1, tupSet ea (noTup_dK _) (stUp e2 sE), e3⟩
          · rw [List.getElem?_append_right ge] at hn
            have e0 : n - kvs.length = 0 := by
              rcases Nat.eq_zero_or_pos (n - kvs.length) with z | z
              · exact z
              · rw [List.getElem?_eq_none (by simp; omega)] at hn
                cases hn
            rw [e0] at hn
            cases hn
            exact ⟨d, _, _, rfl, tupSet ea (noTup_dK _) (SqT.of hd), by omega, by omega, by omega⟩
    · rintro σ' H' ⟨x, y, kvs, rfl, g, hq', hD⟩
      rw [List.length_map, List.take_length] at hD
      exact ⟨_, rfl, k p ys kvs H' hperm (g.le (by rw [List.length_map]; omega) (by omega)) hD ep⟩
end
end K5
set_option Elab.async false
set_option linter.all false
set_option maxRecDepth 100000
set_option maxHeartbeats 4000000
namespace K5
open PySem L2
local macro_rules | `(tactic| walk_at "rd1") => `(tactic| first
  | refine ⟨_, _, rfl, rfl, ?_⟩
  | refine ⟨_, _, _, _, rfl, rfl, SqL.of (by assumption), rfl, ?_⟩
  | refine ⟨_, _, _, _, rfl, rfl, (by assumption), rfl, ?_⟩
  | refine .inl ⟨_, rfl, ?_⟩
  | refine ⟨_, rfl, ?_⟩
  | refine ⟨(by unfold CMul; omega), ?_⟩
  | refine ⟨(by unfold CPow; omega), ?_⟩
  | refine ⟨(by (try dsimp only); omega), ?_⟩
  | refine ⟨(by unfold CDiv; omega), ?_⟩
  | fail "rd1")
local macro_rules | `(tactic| walk_at "rd") => `(tactic| repeat' (walk_at "rd1"))
section
variable {P : Program} {w : World} {K : PySem.W.Frag} {mg : Str → Option Value} {base : Heap} {A : Ad}

inductive MomN (ns : List Str) : PyData → Prop
  | clock : MomN ns (.str "clock")
  | edge {e n : Str} (he : e = "start" ∨ e = "done") (hn : n ∈ ns) : MomN ns (.tuple [.str e, .str n])
inductive WshN (ns : List Str) : PyData → Prop
  | mk {a b : PyData} {m : Int} (ha : MomN ns a) (hb : MomN ns b) : WshN ns (.tuple [a, b, .int m])
theorem ifs_ex {c : TT} {t u : TS} {D : Ends} {σ : St} {H : Hp} (Ex : St → Hp → Prop) (h : ∀ nx : St → Hp → Prop, (∀ σ H, Ex σ H → nx σ H) → tIfS c t u { D with nx := nx } σ H) (hd : ∀ σ H, Ex σ H → D.nx σ H) : tIfS c t u D σ H := h D.nx hd
def spMomN (K : PySem.W.Frag) : Sp := fun vs H Q _ => ∃ (st c t : Addr) (ns : List Str) (b : Int), vs = [.ref st, .ref t] ∧ Sta H st c b ∧ b + 3 ≤ 1000000 ∧ SqL K (er H st) t (ns.map V.str) ∧ ns.length ≤ 64 ∧ (∀ s ∈ ns, PyData.strOk s = true) ∧
  ∀ (v : V) (d : PyData) (H' : Hp), Gs st c H H' (b + 3) → Dp K (er H' st) v d → MomN ns d → Q v H'
theorem ok_momn (T : Txt K mg A) : FnOk P w K mg base CX0 3 A.a__law_moment A.d__law_moment P__law_moment (spMomN K) := by
  have G__law_take : FnOk P w K mg base CX0 1 A.a__law_take A.d__law_take P__law_take spTake := ok_take T
  have G__law_one : FnOk P w K mg base CX0 2 A.a__law_one A.d__law_one P__law_one (spOne K) := ok_one T
  refine T.f__law_moment.ok sc__law_moment (fun vs H Q E h => ?_) (fun cdv A' outer s H vs Q E hr h => ?_)
  · obtain ⟨st, c, t, ns, b, rfl, _⟩ := h
    rfl
  · obtain ⟨st, c, t, ns, b, rfl, S, hb, hS, hl, hok, k⟩ := h
    refine ⟨_, (pss_cons (ps_if (PW.pt (pw_or (pt_cmpR (op_eqD hr.units) (pv 1) (pe_lst pa_nil) (nomark _)) (pw_or1 (pt_cmpR op_eq (pe_call G__law_take (hr.mono (by omega)) (by rfl) T.g__law_take T.f__law_take.kp T.b__law_take .nil pass0 (pa_cons (pv 0) (pa_cons pe_int pa_nil))) pe_int (nomark _)))))
 (pss_one (ps_ret pe_str))
 pss_nil)
 (pss_one (ps_ret (pe_tup (pa_cons (pe_call G__law_one (hr.mono (by omega)) (by rfl) T.g__law_one T.f__law_one.kp T.b__law_one .nil pass0 (pa_cons (pv 0) (pa_cons (pe_lst (pa_cons pe_str (pa_cons pe_str (pa_cons pe_str pa_nil)))) pa_nil))) (pa_cons (pe_call G__law_one (hr.mono (by omega)) (by rfl) T.g__law_one T.f__law_one.kp T.b__law_one .nil pass0 (pa_cons (pv 0) (pa_cons (pv 1) pa_nil))) pa_nil)))))), ?_⟩
    refine ⟨_, rfl, Nat.zero_le _, fun e he => ⟨.list (ns.map PyData.str), .list [], .lst (sqUp (sqEr hS) (Same.new he)) (dpStrs ns), .lst (SqL.of upd_same) .nil, strs_shaped hok, by decide +kernel, _, rfl, ?_⟩⟩
    have g1 := (Gs.refl S).new he (o := .lst [])
    have hS1 := sqUp hS g1.same
    generalize upd H e (.lst []) = H1 at g1 hS1 ⊢
    rw [eqv_strs_nil]
    refine ite2 (fun _ => ?_) (fun hne => ?_)
    · exact iteT (k _ _ _ (g1.le (by omega) hb) (.str _) .clock)
    · refine ⟨_, rfl, st, c, 6, _, rfl, g1.sta, by omega, by omega, by omega, fun r o hr0 hr1 S1 => ⟨rfl, _, rfl, ?_⟩⟩
      have g2 := g1.trans (Gs.of_upd S1)
      have hS2 : SqL K (er (upd H1 st o) st) t (ns.map V.str) := by rw [er_upd]; exact hS1
      generalize upd H1 st o = H2 at g2 hS2 ⊢
      refine ite2 (fun _ => k _ _ _ (g2.le (by omega) hb) (.str _) .clock) (fun _ => ?_)
      have pos : 0 < ns.length := by
        cases ns with
        | nil => exact absurd rfl hne
        | cons _ _ => exact Nat.succ_pos _
      refine ⟨_, rfl, by show 3 ≤ sizeLine; decide, fun q nq => ?_⟩
      have mq := g2.sta.ne nq
      have g3 := g2.new nq (o := .lst [.str "done", .str "start", .str "done"])
      have hS3 := sqUp hS2 (er_mono (st := st) (Same.new (o := .lst [.str "done", .str "start", .str "done"]) nq))
      refine ⟨st, c, q, _, _, rfl, g3.sta, by omega, SqL.of (er_of mq upd_same), by show 0 < 3; decide, by show 3 < 1073741824; decide, fun i v H4 hv g4 => ?_⟩
      obtain ⟨e, rfl, he⟩ : ∃ e : Str, v = V.str e ∧ (e = "start" ∨ e = "done") := by
        have hm := List.mem_of_getElem? hv
        simp only [List.mem_cons, List.not_mem_nil, or_false] at hm
        rcases hm with z | z | z
        · exact ⟨_, z, .inr rfl⟩
        · exact ⟨_, z, .inl rfl⟩
        · exact ⟨_, z, .inr rfl⟩
      have hS4 := sqUp hS3 g4.same
      have g4 := g3.trans g4
      refine ⟨_, rfl, _, rfl, st, c, t, _, _, rfl, g4.sta, by omega, hS4, by rw [List.length_map]; exact pos, by rw [List.length_map]; omega, fun j w H5 hw g5 => ?_⟩
      obtain ⟨hj, rfl⟩ := str_at hw
      have g5 := g4.trans g5
      refine ⟨by show 2 ≤ sizeLine; decide, fun d nd => ?_⟩
      have md := g5.sta.ne nd
      exact k _ _ _ ((g5.new nd).le (by omega) hb) (.tup (SqT.of (er_of md upd_same)) (.cons (.str e) (.cons (.str ns[j]) .nil))) (.edge he (List.getElem_mem hj))
theorem momnNoRef {ns : List Str} {E E' : Hp} {v : V} {d : PyData} {p : Addr} {u : HO} (hp : E p = some u) (hu : NoTup u) (h : Dp K E v d) (m : MomN ns d) (s : Same (er E p) E') : Dp K E' v d := by
  cases m with
  | clock => cases h; exact .str _
  | edge he hn =>
    cases h with
    | tup hq hA =>
      cases hA with
      | cons h1 hA =>
        cases h1
        cases hA with
        | cons h2 hA =>
          cases h2
          cases hA
          exact .tup (stUp (tupEr hp hu hq) s) (.cons (.str _) (.cons (.str _) .nil))
theorem wshnNoRef {ns : List Str} {E E' : Hp} {v : V} {d : PyData} {p : Addr} {u : HO} (hp : E p = some u) (hu : NoTup u) (h : Dp K E v d) (m : WshN ns d) (s : Same (er E p) E') : Dp K E' v d := by
  cases m with
  | mk ha hb =>
    cases h with
    | tup hq hA =>
      cases hA with
      | cons h1 hA =>
        cases hA with
        | cons h2 hA =>
          cases hA with
          | cons h3 hA =>
            cases h3
            cases hA
            exact .tup (stUp (tupEr hp hu hq) s) (.cons (momnNoRef hp hu h1 ha s) (.cons (momnNoRef hp hu h2 hb s) (.cons (.int _) .nil)))
theorem wshnAll {ns : List Str} {E E' : Hp} {p : Addr} {u : HO} (hp : E p = some u) (hu : NoTup u) (s : Same (er E p) E') : ∀ {vs : List V} {ds : List PyData}, DpAll K E vs ds → (∀ d ∈ ds, WshN ns d) → DpAll K E' vs ds
  | _, _, .nil, _ => .nil
  | _, _, .cons a b, m => .cons (wshnNoRef hp hu a (m _ (List.mem_cons_self ..)) s) (wshnAll hp hu s b fun d hd => m d (List.mem_cons_of_mem _ hd))
/-- a list of wishes over the names -/
structure WLn (K : PySem.W.Frag) (E : Hp) (p : Addr) (ns : List Str) (ds : List PyData) : Prop where
  ex : ∃ vs, E p = some (.lst vs) ∧ DpAll K E vs ds
  each : ∀ d ∈ ds, WshN ns d
theorem WLn.up {E E' : Hp} {p : Addr} {ns : List Str} {ds : List PyData} (h : WLn K E p ns ds) (s : Same E E') : WLn K E' p ns ds := by
  obtain ⟨vs, h1, h2⟩ := h.ex
  exact ⟨⟨vs, s _ _ h1, dpAllSame s h2⟩, h.each⟩
def spWishL (K : PySem.W.Frag) : Sp := fun vs H Q _ => ∃ (st c t : Addr) (ns : List Str) (b : Int) (many : Nat), vs = [.ref st, .ref t, .int many] ∧ Sta H st c b ∧ b + 600 ≤ 1000000 ∧ many ≤ 24 ∧ SqL K (er H st) t (ns.map V.str) ∧ ns.length ≤ 64 ∧ (∀ s ∈ ns, PyData.strOk s = true) ∧
  ∀ (p : Addr) (ds : List PyData) (H' : Hp), Gs st c H H' (b + 600) → WLn K (er H' st) p ns ds → ds.length ≤ many → er H st p = none → Q (.ref p) H'
end
end K5
set_option Elab.async false
set_option linter.all false
set_option maxRecDepth 100000
set_option maxHeartbeats 4000000
namespace K5
open PySem L2
local macro_rules | `(tactic| walk_at "rd1") => `(tactic| first
  | refine ⟨_, _, rfl, rfl, ?_⟩
  | refine ⟨_, _, _, _, rfl, rfl, SqL.of (by assumption), rfl, ?_⟩
  | refine ⟨_, _, _, _, rfl, rfl, (by assumption), rfl, ?_⟩
  | refine .inl ⟨_, rfl, ?_⟩
  | refine ⟨_, rfl, ?_⟩
  | refine ⟨(by unfold CMul; omega), ?_⟩
  | refine ⟨(by unfold CPow; omega), ?_⟩
  | refine ⟨(by (try dsimp only); omega), ?_⟩
  | refine ⟨(by unfold CDiv; omega), ?_⟩
  | fail "rd1")
local macro_rules | `(tactic| walk_at "rd") => `(tactic| repeat' (walk_at "rd1"))
section
variable {P : Program} {w : World} {K : PySem.W.Frag} {mg : Str → Option Value} {base : Heap} {A : Ad}

theorem noTup_lst (xs : List V) : NoTup (.lst xs) := ⟨fun _ z => (nomatch z), fun _ _ z => (nomatch z)⟩
theorem dpAllApp' {H : Hp} : ∀ {vs : List V} {ds : List PyData} {v : V} {d : PyData}, DpAll K H vs ds → Dp K H v d → DpAll K H (vs ++ [v]) (ds ++ [d])
  | _, _, _, _, .nil, b => .cons b .nil
  | _, _, _, _, .cons a r, b => .cons a (dpAllApp' r b)
theorem neNil {H : Hp} {t : Addr} {ns : List Str} {j : Nat} {σ : St} {Q : Bool → Hp → Prop} (hS : SqL K H t (ns.map V.str)) (hok : ∀ s ∈ ns, PyData.strOk s = true) (hj : σ[j]? = some (some (.ref t)))
    (k : ∀ e, H e = none → Q (!ns.isEmpty) (upd H e (.lst []))) : tTest (tOp (rNeD K) (tVar j) (tLst tNil)) σ H Q := by
  refine ⟨_, hj, Nat.zero_le _, fun e he => ⟨.list (ns.map PyData.str), .list [], .lst (sqUp hS (Same.new he)) (dpStrs ns), .lst (SqL.of upd_same) .nil, strs_shaped hok, by decide +kernel, _, rfl, ?_⟩⟩
  rw [eqv_strs_nil]
  exact k e he
/-- how the row of names stands behind the choices of a wish -/
def ExW (K : PySem.W.Frag) (st c t p : Addr) (H : Hp) (ns : List Str) (many : Nat) (k r1 : V) (ds : List PyData) (B : Int) : St → Hp → Prop := fun σ' H' =>
  ∃ (v1 v2 : V) (d1 d2 : PyData) (m : Int), σ' = [some (.ref st), some (.ref t), some (.int (many : Nat)), some (.ref p), some k, some r1, some (.int m), some v1, some v2] ∧ Gs st c H H' B ∧ WLn K (er H' st) p ns ds ∧ Dp K (er H' st) v1 d1 ∧ MomN ns d1 ∧ Dp K (er H' st) v2 d2 ∧ MomN ns d2
theorem seq_ifs_ex {c : TT} {t u r : TS} {D : Ends} {σ : St} {H : Hp} (Ex : St → Hp → Prop) (h : ∀ nx : St → Hp → Prop, (∀ σ H, Ex σ H → nx σ H) → tIfS c t u { D with nx := nx } σ H) (hd : ∀ σ H, Ex σ H → r D σ H) : tSeq (tIfS c t u) r D σ H := h (r D) hd
theorem elif_ok {st c t p : Addr} {H H5 : Hp} {ns : List Str} {many : Nat} {k : V} {r1 r2 B : Int} {ds : List PyData} {v1 v2 : V} {d1 d2 : PyData} {D : Ends} (g : Gs st c H H5 B) (hB : B + 4 ≤ 1000000) (hS : SqL K (er H5 st) t (ns.map V.str)) (hl : ns.length ≤ 64) (hok : ∀ s ∈ ns, PyData.strOk s = true)
    (hm : -100000 < r2 ∧ r2 < 100000) (wl : WLn K (er H5 st) p ns ds) (D1 : Dp K (er H5 st) v1 d1) (M1 : MomN ns d1) (D2 : Dp K (er H5 st) v2 d2) (M2 : MomN ns d2) (hnx : ∀ σ H', ExW K st c t p H ns many k (.int r1) ds (B + 4) σ H' → D.nx σ H') :
    tIfS (tAnd (tTest (tOp rEq (tVar 5) (tC (V.int 2)))) (tTest (tOp (rNeD K) (tVar 1) (tLst tNil)))) (tPar3 7 8 6 (tCons (tC (V.str "clock")) (tCons (tTup (tCons (tC (V.str "done")) (tCons (tCall (spOne K) [] E0 (tCons (tVar 0) (tCons (tVar 1) tNil))) tNil)))
      (tCons (tOp (rI0 fun i j => V.int (i + j)) (tC (V.int 8)) (tOp (rI CMul fun i j => V.int (i * j)) (tC (V.int 2)) (tVar 6))) tNil)))) tNext D
      [some (.ref st), some (.ref t), some (.int (many : Nat)), some (.ref p), some k, some (.int r1), some (.int r2), some v1, some v2] H5 := by
  refine ⟨_, rfl, rfl, _, rfl, ite2 (fun _ => neNil (sqEr hS) hok rfl fun e he => ?_) (fun _ => iteF ?_)⟩
  · have g1 := g.new he (o := .lst [])
    have s1 : Same (er H5 st) (er (upd H5 e (.lst [])) st) := er_mono (Same.new he)
    generalize upd H5 e (.lst []) = H6 at g1 s1 ⊢
    refine ite2 (fun hne => ?_) (fun _ => ?_)
    · have pos : 0 < ns.length := by
        cases ns with
        | nil => cases hne
        | cons _ _ => exact Nat.succ_pos _
      refine ⟨_, rfl, _, rfl, st, c, t, _, _, rfl, g1.sta, by omega, sqUp hS s1, by rw [List.length_map]; exact pos, by rw [List.length_map]; omega, fun j w H7 hw g7 => ?_⟩
      obtain ⟨hj, rfl⟩ := str_at hw
      refine ⟨by show 2 ≤ sizeLine; decide, fun d nd => ?_⟩
      have q7 : SqT K (er (upd H7 d (.tup [.str "done", .str ns[j]])) st) d [.str "done", .str ns[j]] := SqT.of (er_of (g7.sta.ne nd) upd_same)
      have g7 := g7.new nd (o := .tup [.str "done", .str ns[j]])
      refine ⟨_, rfl, _, _, rfl, rfl, .inl ⟨by omega, by omega⟩, _, _, rfl, rfl, _, _, _, rfl, ?_⟩
      have s7 := s1.trans g7.same
      exact hnx _ _ ⟨.str "clock", .ref d, _, _, _, rfl, (g1.trans g7).le (by omega) hB, wl.up s7, .str _, .clock, .tup q7 (.cons (.str _) (.cons (.str ns[j]) .nil)), .edge (.inr rfl) (List.getElem_mem hj)⟩
    · exact hnx _ _ ⟨v1, v2, d1, d2, r2, rfl, g1.le (by omega) hB, wl.up s1, dpSame s1 D1, M1, dpSame s1 D2, M2⟩
  · exact hnx _ _ ⟨v1, v2, d1, d2, r2, rfl, g.le (by omega) hB, wl, D1, M1, D2, M2⟩
theorem wl_push {E : Hp} {p d : Addr} {ns : List Str} {ds : List PyData} {vs : List V} {v1 v2 : V} {d1 d2 : PyData} {x : Int} (hp : E p = some (.lst vs)) (hA : DpAll K E vs ds) (hW : ∀ d ∈ ds, WshN ns d) (hd : E d = none) (D1 : Dp K E v1 d1) (M1 : MomN ns d1) (D2 : Dp K E v2 d2) (M2 : MomN ns d2) :
    WLn K (upd (upd E d (.tup [v1, v2, .int x])) p (.lst (vs ++ [.ref d]))) p ns (ds ++ [.tuple [d1, d2, .int x]]) := by
  have ndp : d ≠ p := (ne_of_none hp hd).symm
  have s1 : Same E (upd E d (.tup [v1, v2, .int x])) := Same.new hd
  have hp1 := s1 _ _ hp
  have hd1 : upd E d (.tup [v1, v2, .int x]) d = some (.tup [v1, v2, .int x]) := upd_same
  generalize upd E d (.tup [v1, v2, .int x]) = E1 at s1 hp1 hd1 ⊢
  have s2 : Same (er E1 p) (upd E1 p (.lst (vs ++ [.ref d]))) := fun b u e => by rw [upd_ne (er_some e).1]; exact (er_some e).2
  have nt := noTup_lst vs
  refine ⟨⟨_, upd_same, ?_⟩, fun z hz => ?_⟩
  · refine dpAllApp' (wshnAll hp1 nt s2 (dpAllSame s1 hA) hW) (.tup (SqT.of (by rw [upd_ne ndp]; exact hd1)) (.cons (momnNoRef hp1 nt (dpSame s1 D1) M1 s2) (.cons (momnNoRef hp1 nt (dpSame s1 D2) M2 s2) (.cons (.int x) .nil))))
  · rcases List.mem_append.mp hz with q | q
    · exact hW z q
    · rw [List.mem_singleton.mp q]; exact .mk M1 M2
theorem ok_wishl (T : Txt K mg A) : FnOk P w K mg base CX0 4 A.a__law_wishes A.d__law_wishes P__law_wishes (spWishL K) := by
  have G__law_take : FnOk P w K mg base CX0 1 A.a__law_take A.d__law_take P__law_take spTake := ok_take T
  have G__law_one : FnOk P w K mg base CX0 2 A.a__law_one A.d__law_one P__law_one (spOne K) := ok_one T
  have G__law_moment : FnOk P w K mg base CX0 3 A.a__law_moment A.d__law_moment P__law_moment (spMomN K) := ok_momn T
  refine T.f__law_wishes.ok sc__law_wishes (fun vs H Q E h => ?_) (fun cdv A' outer s H vs Q E hr h => ?_)
  · obtain ⟨st, c, t, ns, b, many, rfl, _⟩ := h
    rfl
  · obtain ⟨st, c, t, ns, b, many, rfl, S, hb, hm24, hS, hl, hok, k⟩ := h
    refine ⟨_, (pss_cons (ps_set (i := 3) sc__law_wishes.nd rfl (Or.inl rfl) (pe_lst pa_nil))
 (pss_cons (ps_for PassesOwn.never rfl (pi_range1 (by rfl) T.range (pa_cons (pe_call G__law_take (hr.mono (by omega)) (by rfl) T.g__law_take T.f__law_take.kp T.b__law_take .nil pass0 (pa_cons (pv 0) (pa_cons (pe_op op_add (pv 2) pe_int) pa_nil))) pa_nil)) (pg_name (i := 4) sc__law_wishes.nd rfl (Or.inl rfl))
 (pss_cons (ps_par (i := 5) (j := 6) (by rfl) sc__law_wishes.nd rfl rfl (by decide) rfl rfl (pa_cons (pe_call G__law_take (hr.mono (by omega)) (by rfl) T.g__law_take T.f__law_take.kp T.b__law_take .nil pass0 (pa_cons (pv 0) (pa_cons pe_int pa_nil))) (pa_cons (pe_call G__law_take (hr.mono (by omega)) (by rfl) T.g__law_take T.f__law_take.kp T.b__law_take .nil pass0 (pa_cons (pv 0) (pa_cons pe_int pa_nil))) pa_nil)) (by rfl))
 (pss_cons (ps_par (i := 7) (j := 8) (by rfl) sc__law_wishes.nd rfl rfl (by decide) rfl rfl (pa_cons (pe_call G__law_moment (hr.mono (by omega)) (by rfl) T.g__law_moment T.f__law_moment.kp T.b__law_moment .nil pass0 (pa_cons (pv 0) (pa_cons (pv 1) pa_nil))) (pa_cons (pe_call G__law_moment (hr.mono (by omega)) (by rfl) T.g__law_moment T.f__law_moment.kp T.b__law_moment .nil pass0 (pa_cons (pv 0) (pa_cons (pv 1) pa_nil))) pa_nil)) (by rfl))
 (pss_cons (ps_if (PW.pt (pw_and (pt_cmpR op_lt (pv 5) pe_int (nomark _)) (pw_and1 (pt_cmpR (op_neD hr.units) (pv 1) (pe_lst pa_nil) (nomark _)))))
 (pss_one (ps_par (i := 7) (j := 8) (by rfl) sc__law_wishes.nd rfl rfl (by decide) rfl rfl (pa_cons (pe_tup (pa_cons pe_str (pa_cons (pe_call G__law_one (hr.mono (by omega)) (by rfl) T.g__law_one T.f__law_one.kp T.b__law_one .nil pass0 (pa_cons (pv 0) (pa_cons (pv 1) pa_nil))) pa_nil))) (pa_cons (pe_tup (pa_cons pe_str (pa_cons (pe_call G__law_one (hr.mono (by omega)) (by rfl) T.g__law_one T.f__law_one.kp T.b__law_one .nil pass0 (pa_cons (pv 0) (pa_cons (pv 1) pa_nil))) pa_nil))) pa_nil)) (by rfl)))
 (pss_one (ps_if (PW.pt (pw_and (pt_cmpR op_eq (pv 5) pe_int (nomark _)) (pw_and1 (pt_cmpR (op_neD hr.units) (pv 1) (pe_lst pa_nil) (nomark _)))))
 (pss_one (ps_par3 (i := 7) (j := 8) (l := 6) (by rfl) sc__law_wishes.nd rfl rfl rfl (by decide) (by decide) (by decide) rfl rfl rfl (pa_cons pe_str (pa_cons (pe_tup (pa_cons pe_str (pa_cons (pe_call G__law_one (hr.mono (by omega)) (by rfl) T.g__law_one T.f__law_one.kp T.b__law_one .nil pass0 (pa_cons (pv 0) (pa_cons (pv 1) pa_nil))) pa_nil))) (pa_cons (pe_op op_add pe_int (pe_op op_mul pe_int (pv 6))) pa_nil))) (by rfl)))
 pss_nil)))
 (pss_one (ps_expr (pe_bm PySem.F.plainAttrs_list PySem.F.slot_list_append PySem.F.type_list_append mt_append (pv 3) (pa_cons (pe_tup (pa_cons (pv 7) (pa_cons (pv 8) (pa_cons (pe_ifExp (pt_cmpR op_gt (pv 5) pe_int (nomark _)) (pe_op op_sub (pv 6) pe_int) (pv 6)) pa_nil)))) pa_nil))))))))
 (pss_one (ps_ret (pv 3))))), ?_⟩
    refine ⟨Nat.zero_le _, fun p hp => ?_⟩
    have mp := S.ne hp
    have ep := er_none (st := st) hp
    have g0 := (Gs.refl S).new hp (o := .lst [])
    have hp0 : er (upd H p (.lst [])) st p = some (.lst []) := er_of mp upd_same
    refine ⟨_, rfl, _, rfl, _, _, rfl, rfl, st, c, (many : Int) + 1, _, rfl, g0.sta, by omega, by omega, by omega, fun r o hr0 hr1 S1 => ?_⟩
    have g1 := g0.trans (Gs.of_upd S1)
    have hp1 : er (upd (upd H p (.lst [])) st o) st p = some (.lst []) := by rw [er_upd]; exact hp0
    generalize upd (upd H p (.lst [])) st o = H1 at g1 hp1 ⊢
    refine ⟨_, rfl, by omega, by omega, for_range (lo := 0) (n := r.toNat) (fun i σ' H' => ∃ u4 u5 u6 u7 u8 ds, σ' = [some (.ref st), some (.ref t), some (.int (many : Nat)), some (.ref p), u4, u5, u6, u7, u8] ∧ Gs st c H H' (b + 1 + 20 * (i : Int)) ∧ WLn K (er H' st) p ns ds ∧ ds.length = i)
      ⟨_, _, _, _, _, [], rfl, by simpa using g1, ⟨⟨[], hp1, .nil⟩, fun _ h => by cases h⟩, rfl⟩ ?_ ?_⟩
    · rintro i σ' H' hi ⟨u4, u5, u6, u7, u8, ds, rfl, g, wl, hdl⟩
      have hi24 : i < 25 := by omega
      -- sort, most
      refine ⟨_, rfl, st, c, 5, _, rfl, g.sta, by omega, by omega, by omega, fun r1 o1 _ _ S1 => ⟨_, rfl, st, c, 12, _, rfl, S1, by omega, by omega, by omega, fun r2 o2 _ _ S2 => ⟨_, _, rfl, ?_⟩⟩⟩
      have g2 := (g.trans (Gs.of_upd S1)).trans (Gs.of_upd S2)
      have wl2 : WLn K (er (upd (upd H' st o1) st o2) st) p ns ds := by rw [er_upd, er_upd]; exact wl
      generalize upd (upd H' st o1) st o2 = H2 at g2 wl2 ⊢
      have hS2 := sqUp hS g2.same
      -- two moments
      refine ⟨_, rfl, _, rfl, st, c, t, ns, _, rfl, g2.sta, by omega, hS2, hl, hok, fun v1 d1 H3 g3 D1 M1 => ?_⟩
      have wl3 := wl2.up g3.same
      have g3 := g2.trans g3
      refine ⟨_, rfl, _, rfl, st, c, t, ns, _, rfl, g3.sta, by omega, sqUp hS g3.same, hl, hok, fun v2 d2 H4 g4 D2 M2 => ⟨_, _, rfl, ?_⟩⟩
      have wl4 := wl3.up g4.same
      have D1 := dpSame g4.same D1
      have g4 := g3.trans g4
      have hS4 := sqUp hS g4.same
      with_reducible refine seq_ifs_ex (ExW K st c t p H ns many (.int (0 + (i : Int))) (.int r1) ds (b + 1 + 20 * (i : Int) + 16)) (fun nx hnx => ?_) ?_
      · have elif : ∀ H5, Gs st c H H5 (b + 1 + 20 * (i : Int) + 8) → Same (er H4 st) (er H5 st) → _ := fun H5 g5 s5 =>
          elif_ok (D := { nx := nx, rt := Q }) (k := .int (0 + (i : Int))) (r1 := r1) (r2 := r2) (many := many) g5 (by omega) (sqUp hS4 s5) hl hok ⟨by omega, by omega⟩ (wl4.up s5) (dpSame s5 D1) M1 (dpSame s5 D2) M2 (fun σ' H' z => hnx σ' H' (by
            obtain ⟨a1, a2, a3, a4, a5, a6, a7, a8⟩ := z
            exact ⟨a1, a2, a3, a4, a5, a6, a7.le (by omega) (by omega), a8⟩))
        have g4' := g4.le (b' := b + 1 + 20 * (i : Int) + 8) (by omega) (by omega)
        refine ⟨_, rfl, _, _, rfl, rfl, _, rfl, ite2 (fun _ => neNil (sqEr hS4) hok rfl fun e he => ite2 (fun hne => ?_) (fun _ => ?_)) (fun _ => iteF ?_)⟩
        · have g5 := g4.new he (o := .lst [])
          have s5 : Same (er H4 st) (er (upd H4 e (.lst [])) st) := er_mono (Same.new he)
          generalize upd H4 e (.lst []) = H5 at g5 s5 ⊢
          have pos : 0 < ns.length := by
            cases ns with
            | nil => cases hne
            | cons _ _ => exact Nat.succ_pos _
          refine ⟨_, rfl, _, rfl, st, c, t, _, _, rfl, g5.sta, by omega, sqUp hS4 s5, by rw [List.length_map]; exact pos, by rw [List.length_map]; omega, fun j w H6 hw g6 => ?_⟩
          obtain ⟨hj, rfl⟩ := str_at hw
          refine ⟨by show 2 ≤ sizeLine; decide, fun da nda => ?_⟩
          have q6 : SqT K (er (upd H6 da (.tup [.str "done", .str ns[j]])) st) da [.str "done", .str ns[j]] := SqT.of (er_of (g6.sta.ne nda) upd_same)
          have g6 := g6.new nda (o := .tup [.str "done", .str ns[j]])
          generalize upd H6 da (.tup [.str "done", .str ns[j]]) = H6' at q6 g6 ⊢
          refine ⟨_, rfl, _, rfl, st, c, t, _, _, rfl, (g5.trans g6).sta, by omega, sqUp (sqUp hS4 s5) g6.same, by rw [List.length_map]; exact pos, by rw [List.length_map]; omega, fun j2 w H7 hw g7 => ?_⟩
          obtain ⟨hj2, rfl⟩ := str_at hw
          refine ⟨by show 2 ≤ sizeLine; decide, fun db ndb => ⟨_, _, rfl, ?_⟩⟩
          have q7 : SqT K (er (upd H7 db (.tup [.str "done", .str ns[j2]])) st) db [.str "done", .str ns[j2]] := SqT.of (er_of (g7.sta.ne ndb) upd_same)
          have g7 := g7.new ndb (o := .tup [.str "done", .str ns[j2]])
          have s7 := (s5.trans g6.same).trans g7.same
          exact hnx _ _ ⟨.ref da, .ref db, _, _, _, rfl, ((g5.trans g6).trans g7).le (by omega) (by omega), wl4.up s7, .tup (stUp q6 g7.same) (.cons (.str _) (.cons (.str ns[j]) .nil)), .edge (.inr rfl) (List.getElem_mem hj), .tup q7 (.cons (.str _) (.cons (.str ns[j2]) .nil)), .edge (.inr rfl) (List.getElem_mem hj2)⟩
        · exact elif _ (g4'.new he) (er_mono (Same.new he))
        · exact elif _ g4' (Same.refl _)
      · rintro σ' H5 ⟨v1, v2, d1, d2, m, rfl, g5, wl5, D1, M1, D2, M2⟩
        obtain ⟨vs, hvs, hA⟩ := wl5.ex
        have hvl := dpLen hA
        have hpv := (er_same _ _) _ _ hvs
        refine ⟨_, rfl, .inl ⟨rfl, _, SqL.of hpv⟩, _, rfl, _, rfl, _, rfl, _, _, rfl, rfl, _, rfl, ite2 (fun _ => ⟨_, rfl, _, _, rfl, rfl, ?_⟩) (fun _ => ⟨_, rfl, ?_⟩)⟩
        all_goals
          refine ⟨by show 3 ≤ sizeLine; decide, fun d nd => ?_⟩
          have md := g5.sta.ne nd
          have nd' : d ≠ p := (ne_of_none hpv nd).symm
          refine ⟨p, vs, _, rfl, rfl, Same.new nd _ _ hpv, Nat.lt_of_le_of_lt (show vs.length ≤ 25 by omega) (by decide), ?_⟩
          refine' ⟨_, _, _, _, _, _, rfl, Gs.le ((g5.new nd).set S.hc ep mp) (by omega) (by omega), ?a, ?b⟩
          case a =>
            rw [er_updp mp, er_updp md]
            exact wl_push hvs hA wl5.each (er_none nd) D1 M1 D2 M2
          case b => rw [List.length_append, List.length_singleton, hdl]
    · rintro σ' H' ⟨u4, u5, u6, u7, u8, ds, rfl, g, wl, hdl⟩
      exact ⟨_, rfl, k p ds H' (g.le (by omega) (by omega)) wl (by omega) ep⟩
end
end K5
set_option Elab.async false
set_option linter.all false
set_option maxRecDepth 100000
set_option maxHeartbeats 4000000
namespace K5
open PySem L2
local macro_rules | `(tactic| walk_at "rd1") => `(tactic| first
  | refine ⟨_, _, rfl, rfl, ?_⟩
  | refine ⟨_, _, _, _, rfl, rfl, SqL.of (by assumption), rfl, ?_⟩
  | refine ⟨_, _, _, _, rfl, rfl, (by assumption), rfl, ?_⟩
  | refine .inl ⟨_, rfl, ?_⟩
  | refine ⟨_, rfl, ?_⟩
  | refine ⟨(by unfold CMul; omega), ?_⟩
  | refine ⟨(by unfold CPow; omega), ?_⟩
  | refine ⟨(by (try dsimp only); omega), ?_⟩
  | refine ⟨(by unfold CDiv; omega), ?_⟩
  | fail "rd1")
local macro_rules | `(tactic| walk_at "rd") => `(tactic| repeat' (walk_at "rd1"))
section
variable {P : Program} {w : World} {K : PySem.W.Frag} {mg : Str → Option Value} {base : Heap} {A : Ad}

/-! ### rows: what each name hangs on -/
abbrev Rows := List (Str × Str)
def kvR (rows : Rows) : List (Key × V) := rows.map fun r => (.inr r.1, .str r.2)
def ksR (rows : Rows) : List Str := rows.map (·.1)
/-- each hangs on the clock or on one ahead of it -/
def Tree (rows : Rows) : Prop := ∀ (i : Nat) (k h : Str), rows[i]? = some (k, h) → h = "clock" ∨ h ∈ ksR (rows.take i)
theorem kvR_keys (rows : Rows) : (kvR rows).map (·.1) = (ksR rows).map Sum.inr := by simp [kvR, ksR]
theorem kvR_len (rows : Rows) : (kvR rows).length = rows.length := by simp [kvR]
theorem kvR_app (rows : Rows) (k h : Str) : kvR (rows ++ [(k, h)]) = kvR rows ++ [(.inr k, .str h)] := by simp [kvR]
theorem ksR_app (rows : Rows) (k h : Str) : ksR (rows ++ [(k, h)]) = ksR rows ++ [k] := by simp [ksR]
theorem Tree.nil : Tree [] := fun i k h e => by simp at e
theorem Tree.app {rows : Rows} {k h : Str} (t : Tree rows) (hh : h = "clock" ∨ h ∈ ksR rows) : Tree (rows ++ [(k, h)]) := fun i k' h' e => by
  rcases Nat.lt_or_ge i rows.length with lt | ge
  · rw [List.getElem?_append_left lt] at e
    rw [List.take_append_of_le_length (Nat.le_of_lt lt)]
    exact t i k' h' e
  · rw [List.getElem?_append_right ge] at e
    have e0 : i - rows.length = 0 := by
      rcases Nat.eq_zero_or_pos (i - rows.length) with z | z
      · exact z
      · rw [List.getElem?_eq_none (by simp; omega)] at e; cases e
    rw [e0] at e
    cases e
    have : i = rows.length := by omega
    subst this
    rw [List.take_append_of_le_length (Nat.le_refl _), List.take_length]
    exact hh
def spHung (K : PySem.W.Frag) : Sp := fun vs H Q _ => ∃ (st c t : Addr) (ns : List Str) (b : Int), vs = [.ref st, .ref t] ∧ Sta H st c b ∧ b + 130 ≤ 1000000 ∧ SqL K (er H st) t (ns.map V.str) ∧ ns.length ≤ 64 ∧ ns.Nodup ∧ (∀ s ∈ ns, PyData.strOk s = true) ∧
  ∀ (p : Addr) (rows : Rows) (H' : Hp), (ksR rows).Perm ns → Tree rows → Gs st c H H' (b + 130) → er H' st p = some (.dK (kvR rows)) → er H st p = none → Q (.ref p) H'
theorem ok_hung (T : Txt K mg A) : FnOk P w K mg base CX0 3 A.a__law_hung A.d__law_hung P__law_hung (spHung K) := by
  have G__law_mix : FnOk P w K mg base CX0 2 A.a__law_mix A.d__law_mix P__law_mix (spMix K) := ok_mix T
  have G__law_one : FnOk P w K mg base CX0 2 A.a__law_one A.d__law_one P__law_one (spOne K) := ok_one T
  refine T.f__law_hung.ok sc__law_hung (fun vs H Q E h => ?_) (fun cdv A' outer s H vs Q E hr h => ?_)
  · obtain ⟨st, c, t, ns, b, rfl, _⟩ := h
    rfl
  · obtain ⟨st, c, t, ns, b, rfl, S, hb, hS, hl, hnd, hok, k⟩ := h
    refine ⟨_, (pss_cons (ps_par (i := 2) (j := 3) (by rfl) sc__law_hung.nd rfl rfl (by decide) rfl rfl (pa_cons (pe_call G__law_mix (hr.mono (by omega)) (by rfl) T.g__law_mix T.f__law_mix.kp T.b__law_mix .nil pass0 (pa_cons (pv 0) (pa_cons (pv 1) pa_nil))) (pa_cons pe_dnewK pa_nil)) (by rfl))
 (pss_cons (ps_for PassesOwn.never rfl (pi_enum (by rfl) T.enumerate (pa_cons (pv 2) pa_nil)) (pg_tup (by rfl) (pgs_cons (pg_name (i := 4) sc__law_hung.nd rfl (Or.inl rfl)) (pgs_cons (pg_name (i := 5) sc__law_hung.nd rfl (Or.inl rfl)) pgs_nil)))
 (pss_one (ps_dput (hu_of hr) (pv 3) (pv 5) (pe_call G__law_one (hr.mono (by omega)) (by rfl) T.g__law_one T.f__law_one.kp T.b__law_one .nil pass0 (pa_cons (pv 0) (pa_cons (pe_op op_cat (pe_lst (pa_cons pe_str pa_nil)) (pe_slice sl_list (pv 2) po_none (po_some (pv 4)))) pa_nil))) rfl)))
 (pss_one (ps_ret (pv 3))))), ?_⟩
    refine ⟨_, rfl, _, rfl, st, c, t, ns, b, rfl, S, by omega, hS, hl, hok, fun q ys H1 hperm g1 hq hq0 => fun p hp => ⟨_, _, rfl, ?_⟩⟩
    have yN : ys.Nodup := hperm.nodup_iff.mpr hnd
    have yl : ys.length ≤ 64 := by rw [hperm.length_eq]; exact hl
    have mp := g1.sta.ne hp
    have ep : er H st p = none := g1.same.free (er_none hp)
    have g2 := g1.new hp (o := .dK [])
    have npq : p ≠ q := (ne_of_none ((er_same _ _) _ _ hq) hp).symm
    have hq2 := er_mono (st := st) (Same.new (o := .dK []) hp) _ _ hq
    have hp2 : er (upd H1 p (.dK [])) st p = some (.dK []) := er_of mp upd_same
    generalize upd H1 p (.dK []) = H2 at g2 hq2 hp2 ⊢
    refine ⟨_, rfl, q, _, rfl, SqL.of ((er_same _ _) _ _ hq2), for_it walk_enum (fun i σ' H' => ∃ x y rows, σ' = [some (.ref st), some (.ref t), some (.ref q), some (.ref p), x, y] ∧ Gs st c H H' (b + 64 + (i : Int)) ∧ er H' st q = some (.lst (ys.map V.str)) ∧ er H' st p = some (.dK (kvR rows)) ∧ ksR rows = ys.take i ∧ Tree rows)
      ⟨_, _, [], rfl, by simpa using g2, hq2, hp2, rfl, Tree.nil⟩ (fun i σ' H' _ z => SqL.of ((er_same _ _) _ _ z.choose_spec.choose_spec.choose_spec.2.2.1)) ?_ ?_⟩
    · rintro i x σ' H' H'' hi ⟨_, _, rows, rfl, g, hq3, hp3, hks, hT⟩ ⟨Tt, u, v, rfl, hTt, rfl, hu, hv⟩
      have eu : u = .int (i : Nat) := (Option.some.inj hu).symm
      subst eu
      obtain ⟨hi, rfl⟩ := str_at hv
      have g3 := g.new hTt (o := .tup [.int (i : Nat), .str ys[i]])
      have s3 : Same (er H' st) (er (upd H' Tt (.tup [.int (i : Nat), .str ys[i]])) st) := er_mono (Same.new hTt)
      refine ⟨Tt, _, rfl, SqT.of upd_same, rfl, _, _, rfl, _, _, rfl, rfl, ?_⟩
      have hq3 := s3 _ _ hq3
      have hp3 := s3 _ _ hp3
      generalize upd H' Tt (.tup [.int (i : Nat), .str ys[i]]) = H3 at g3 hq3 hp3 ⊢
      refine ⟨_, rfl, by show 1 ≤ sizeLine; decide, fun e he => ⟨_, rfl, _, rfl, _, rfl, _, _, rfl, SqL.of (Same.new he _ _ ((er_same _ _) _ _ hq3)), fun d hd => ?_⟩⟩
      have ec : cutV (ys.map V.str) none (some ((i : Nat) : Int)) = (ys.take i).map V.str := by
        unfold cutV
        rw [HT.sIx_none, HT.sIx_nat, List.drop_zero, Nat.sub_zero, List.map_take, List.length_map, Nat.min_eq_left (Nat.le_of_lt hi)]
      rw [ec]
      have g4 := (g3.new he (o := .lst [.str "clock"])).new hd (o := .lst ((ys.take i).map V.str))
      have h1 : upd (upd H3 e (.lst [.str "clock"])) d (.lst ((ys.take i).map V.str)) e = some (.lst [.str "clock"]) := by rw [upd_ne (ne_of_none upd_same hd), upd_same]
      have s4 : Same (er H3 st) (er (upd (upd H3 e (.lst [.str "clock"])) d (.lst ((ys.take i).map V.str))) st) := (er_mono (Same.new he)).trans (er_mono (Same.new hd))
      have h2 : upd (upd H3 e (.lst [.str "clock"])) d (.lst ((ys.take i).map V.str)) d = some (.lst ((ys.take i).map V.str)) := upd_same
      generalize upd (upd H3 e (.lst [.str "clock"])) d (.lst ((ys.take i).map V.str)) = H4 at g4 h1 h2 s4 ⊢
      have hil : (ys.take i).length ≤ 64 := by rw [List.length_take]; omega
      refine ⟨_, _, _, _, rfl, rfl, h1, h2, by show _ ≤ sizeLine; rw [List.length_map, List.length_singleton]; exact Nat.le_trans (show 1 + (ys.take i).length ≤ 65 by omega) (by decide), fun l hl => ?_⟩
      have ml := g4.sta.ne hl
      have g5 := g4.new hl (o := .lst ([.str "clock"] ++ (ys.take i).map V.str))
      have s5 := s4.trans (er_mono (st := st) (Same.new (o := .lst ([.str "clock"] ++ (ys.take i).map V.str)) hl))
      refine ⟨st, c, l, _, _, rfl, g5.sta, by omega, SqL.of (er_of ml upd_same), by simp, by simp; omega, fun j v H5 hv g6 => ?_⟩
      obtain ⟨h, rfl, hh⟩ : ∃ h : Str, v = V.str h ∧ (h = "clock" ∨ h ∈ ys.take i) := by
        have hm := List.mem_of_getElem? hv
        rcases List.mem_append.mp hm with z | z
        · exact ⟨_, List.mem_singleton.mp z, .inl rfl⟩
        · obtain ⟨h, hh, e⟩ := List.mem_map.mp z
          exact ⟨h, e.symm, .inr hh⟩
      have s6 := s5.trans g6.same
      have hp6 := s6 _ _ hp3
      have hq6 := s6 _ _ hq3
      have g7 := (g5.trans g6)
      have kl : rows.length = i := by
        have := congrArg List.length hks
        rw [ksR, List.length_map, List.length_take] at this
        omega
      have hk : (Sum.inr ys[i] : Key) ∉ (kvR rows).map (·.1) := by
        rw [kvR_keys, hks]
        intro m
        obtain ⟨z, hz, ez⟩ := List.mem_map.mp m
        exact not_in_take yN hi (by rw [← Sum.inr.inj ez]; exact hz)
      refine ⟨_, rfl, _, rfl, p, _, rfl, .inl ⟨kvR rows, .inr ys[i], (er_same _ _) _ _ hp6, rfl, by rw [kvR_len, kl]; exact Nat.lt_of_lt_of_le (show i < 65 by omega) (by decide), rfl⟩, ?_⟩
      rw [put_new _ _ _ hk, ← kvR_app]
      refine ⟨_, _, rows ++ [(ys[i], h)], rfl, (g7.le (by omega) (by omega)).set S.hc ep mp, ?_, ?_, ?_, hT.app (by rw [hks]; exact hh)⟩
      · rw [er_updp mp, upd_ne npq.symm]; exact hq6
      · rw [er_updp mp, upd_same]
      · rw [ksR_app, hks, List.take_succ, List.getElem?_eq_getElem hi]; rfl
    · rintro σ' H' ⟨x, y, rows, rfl, g, hq3, hp3, hks, hT⟩
      rw [List.length_map, List.take_length] at hks
      exact ⟨_, rfl, k p rows H' (by rw [hks]; exact hperm) hT (g.le (by rw [List.length_map]; omega) (by omega)) hp3 ep⟩
end
end K5
set_option Elab.async false
set_option linter.all false
set_option maxRecDepth 100000
set_option maxHeartbeats 4000000
namespace K5
open PySem L2
local macro_rules | `(tactic| walk_at "rd1") => `(tactic| first
  | refine ⟨_, _, rfl, rfl, ?_⟩
  | refine ⟨_, _, _, _, rfl, rfl, SqL.of (by assumption), rfl, ?_⟩
  | refine ⟨_, _, _, _, rfl, rfl, (by assumption), rfl, ?_⟩
  | refine .inl ⟨_, rfl, ?_⟩
  | refine ⟨_, rfl, ?_⟩
  | refine ⟨(by unfold CMul; omega), ?_⟩
  | refine ⟨(by unfold CPow; omega), ?_⟩
  | refine ⟨(by (try dsimp only); omega), ?_⟩
  | refine ⟨(by unfold CDiv; omega), ?_⟩
  | fail "rd1")
local macro_rules | `(tactic| walk_at "rd") => `(tactic| repeat' (walk_at "rd1"))
section
variable {P : Program} {w : World} {K : PySem.W.Frag} {mg : Str → Option Value} {base : Heap} {A : Ad}

def letters : Str := "abcdefghijklmnopqrstuvwxyz"
structure Nm (s : Str) : Prop where
  noclock : s ≠ "clock"
  pos : 1 ≤ s.length
  most : s.length ≤ 8
  low : ∀ c ∈ s.cps.toList, c ∈ letters.cps.toList
theorem nm_dec {xs : List Str} (h : (xs.all fun s => (decide (s ≠ "clock") && (decide (1 ≤ s.length) && (decide (s.length ≤ 8) && s.cps.toList.all fun c => decide (c ∈ letters.cps.toList))))) = true) : ∀ s ∈ xs, Nm s := by
  intro s hs
  have := List.all_eq_true.mp h s hs
  simp only [Bool.and_eq_true, decide_eq_true_eq, List.all_eq_true] at this
  exact ⟨this.1, this.2.1, this.2.2.1, this.2.2.2⟩
theorem pool_nm : ∀ s ∈ pool, Nm s := nm_dec (by decide +kernel)
theorem qq_nm : Nm "qq" := nm_dec (xs := ["qq"]) (by decide +kernel) _ (List.mem_singleton.mpr rfl)
def spIsName : Sp := fun vs H Q _ => ∃ (s : Str), vs = [.str s] ∧ Nm s ∧ ∀ H', Same H H' → Q (.bl true) H'
theorem ok_isname (T : Txt K mg A) : FnOk P w K mg base CX0 1 A.a_is_name A.d_is_name P_is_name spIsName := by
  refine T.f_is_name.ok sc_is_name (fun vs H Q E h => ?_) (fun cdv A' outer s H vs Q E hr h => ?_)
  · obtain ⟨s, rfl, _⟩ := h
    rfl
  · obtain ⟨z, rfl, N, k⟩ := h
    refine ⟨_, (pss_cons (ps_if (PW.pt (pw_or (pt_not (pt_val (pe_callB call_isi (by rfl) T.isinstance (by decide +kernel) (pa_cons (pv 0) (pa_cons (pe_bltn (v := .ty "str") (u := .type "str") (by rfl) T.str (by decide +kernel) rfl) pa_nil))))) (pw_or1 (pt_cmpR op_eq (pv 0) (pe_glob (v := .str "clock") (by rfl) T.g_CLOCK.choose_spec ⟨_, rfl⟩) (nomark _)))))
 (pss_one (ps_ret pe_bl))
 pss_nil)
 (pss_one (ps_ret (pe_and (pe_chain op_le op_le pe_int (pe_callB call_len_str (by rfl) T.len PySem.boot_len (pa_cons (pv 0) pa_nil)) (pe_glob (v := .int 8) (by rfl) T.g_LONGEST_NAME.choose_spec ⟨_, rfl⟩)) (pe_one (pe_callB (cr_all rfl) (by rfl) T.all (by decide +kernel) (pa_cons (pe_lc (own := [("sign", 1)]) (g := gName 1) (by rfl) sc_is_name.nd (pi_str (pv 0)) (blkOk_by (N := N_is_name) (sc := defScope s_is_name) (by decide +kernel)) (fun _ _ _ _ _ => pg_name (i := 1) sc_is_name.nd rfl (Or.inl rfl)) (fun _ _ _ _ _ => pts_nil) (fun _ _ _ _ _ => (pe_cmpR op_in_sign (pv 1) (pe_glob (v := .str "abcdefghijklmnopqrstuvwxyz") (by rfl) T.g_LETTERS.choose_spec ⟨_, rfl⟩) (by rfl)))) pa_nil))))))), ?_⟩
    refine ⟨_, rfl, _, _, .type "str", _, true, rfl, .ty _, .base (.str _), kit_ty (by decide +kernel), _, rfl, iteF ?_⟩
    refine ⟨_, rfl, rfl, _, rfl, ite2 (fun q => absurd (of_decide_eq_true q) (fun q => N.noclock (V.str.inj q))) (fun _ => ?_)⟩
    have l8 := N.most
    have l1 := N.pos
    have hsz : z.length ≤ sizeLine := Nat.le_trans l8 (by decide)
    refine ⟨_, rfl, z, rfl, hsz, _, _, rfl, rfl, _, rfl, ite2 (fun _ => ?_) (fun q => (q (decide_eq_true (by omega))).elim)⟩
    refine ⟨_, _, rfl, rfl, _, rfl, ite2 (fun _ => ?_) (fun q => (q (decide_eq_true (by omega))).elim)⟩
    refine ⟨_, rfl, z, rfl, fun D hD => lc_it walk_str (fun i H' => Same H H' ∧ H' D = some (.lst ((List.replicate i true).map V.bl))) ⟨Same.new hD, upd_same⟩ (fun _ _ _ _ => trivial) ?_ (fun H' q => ?_)⟩
    · rintro i x H' H'' hi ⟨s1, hD'⟩ ⟨rfl, c, hc, rfl⟩
      have hm : c ∈ z.cps.toList := by
        have := Array.mem_of_getElem? hc
        exact Array.mem_toList_iff.mpr this
      have e1 : decide (c ∈ letters.cps.toList) = true := decide_eq_true (N.low c hm)
      refine ⟨rfl, _, rfl, c, letters, rfl, rfl, _, hD', by rw [List.length_map, List.length_replicate]; exact Nat.lt_of_lt_of_le hi hsz, ?_, ?_⟩
      · exact fun b u e => by rw [upd_ne (ne_of_none e hD)]; exact s1 _ _ e
      · rw [upd_same, e1, List.replicate_succ', List.map_append]; rfl
    · refine ⟨D, _, rfl, SqL.of q.2, ?_⟩
      rw [all_true]
      exact k _ q.1
theorem rdUp {H H' : Hp} {d : Addr} {u : HO} (h : Rd H d u) (s : Same H H') : Rd H' d u := h.elim (fun q => .inl (s _ _ q)) (fun ⟨o, q⟩ => .inr ⟨o, s _ _ q⟩)
/-- is_dish of a text, or of what is none -/
def spIsDish (K : PySem.W.Frag) : Sp := fun vs H Q _ => ∃ (x : V) (dd : Addr) (kvs : List (Key × V)), vs = [x, .ref dd] ∧ Rd H dd (.dK kvs) ∧
  ((∃ s, x = .str s ∧ Q (.bl (valV kvs (.inr s)).isSome) H) ∨ ∃ t, TyX K H x (.type t) ∧ kitB t "str" = some false ∧ Q (.bl false) H)
theorem ok_isdish (T : Txt K mg A) : FnOk P w K mg base CX0 1 A.a_is_dish A.d_is_dish P_is_dish (spIsDish K) := by
  refine T.f_is_dish.ok sc_is_dish (fun vs H Q E h => ?_) (fun cdv A' outer s H vs Q E hr h => ?_)
  · obtain ⟨s, dd, kvs, rfl, _⟩ := h
    rfl
  · obtain ⟨x, dd, kvs, rfl, hd, h⟩ := h
    refine ⟨_, (pss_one (ps_ret (pe_and (pe_callB call_isi (by rfl) T.isinstance (by decide +kernel) (pa_cons (pv 0) (pa_cons (pe_bltn (v := .ty "str") (u := .type "str") (by rfl) T.str (by decide +kernel) rfl) pa_nil))) (pe_one (pe_cmp (pc_din (hu_of hr) (pv 0) (pv 1)) rfl))))), ?_⟩
    rcases h with ⟨z, rfl, k⟩ | ⟨t, ht, hk, k⟩
    · exact ⟨_, rfl, _, _, .type "str", _, true, rfl, .ty _, .base (.str _), kit_ty (by decide +kernel), _, rfl, iteT ⟨_, rfl, _, rfl, dd, _, rfl, .inl ⟨kvs, .inr z, hd, rfl, rfl⟩, k⟩⟩
    · exact ⟨_, rfl, _, _, .type t, _, false, rfl, .ty _, ht, kit_ty hk, _, rfl, iteF k⟩
/-- alike, of two texts -/
def spAlike : Sp := fun vs H Q _ => ∃ (a b : Str), vs = [.str a, .str b] ∧ Q (.bl (decide (V.str a = V.str b))) H
theorem ok_alike (T : Txt K mg A) : FnOk P w K mg base CX0 1 A.a_alike A.d_alike P_alike spAlike := by
  have G_alike : FnOk P w K mg base CX0 0 A.a_alike A.d_alike P_alike (fun _ _ _ _ => False) := no_fn fun _ _ _ _ h => h
  refine T.f_alike.ok sc_alike (fun vs H Q E h => ?_) (fun cdv A' outer s H vs Q E hr h => ?_)
  · obtain ⟨a, b, rfl, _⟩ := h
    rfl
  · obtain ⟨a, b, rfl, k⟩ := h
    refine ⟨_, (pss_cons (ps_if (PW.pt (pw_and (pt_val (pe_callB call_isi (by rfl) T.isinstance (by decide +kernel) (pa_cons (pv 0) (pa_cons (pe_bltn (v := .ty "tuple") (u := .type "tuple") (by rfl) T.tuple (by decide +kernel) rfl) pa_nil)))) (pw_and1 (pt_val (pe_callB call_isi (by rfl) T.isinstance (by decide +kernel) (pa_cons (pv 1) (pa_cons (pe_bltn (v := .ty "tuple") (u := .type "tuple") (by rfl) T.tuple (by decide +kernel) rfl) pa_nil)))))))
 (pss_cons (ps_if (pt_cmpR op_ne (pe_callB call_len_seq (by rfl) T.len PySem.boot_len (pa_cons (pv 0) pa_nil)) (pe_callB call_len_seq (by rfl) T.len PySem.boot_len (pa_cons (pv 1) pa_nil)) (nomark _))
 (pss_one (ps_ret pe_bl))
 pss_nil)
 (pss_one (ps_ret (pe_callB (cr_all rfl) (by rfl) T.all (by decide +kernel) (pa_cons (pe_lc (own := [("mine", 2), ("yours", 3)]) (g := gTup K 2 (gCons (gName 2) (gCons (gName 3) gNil))) (by rfl) sc_alike.nd (pi_zip (by rfl) T.zip (pa_cons (pv 0) (pa_cons (pv 1) pa_nil))) (blkOk_by (N := N_alike) (sc := defScope s_alike) (by decide +kernel)) (fun _ _ _ _ _ => (pg_tup rfl (pgs_cons (pg_name (i := 2) sc_alike.nd rfl (Or.inl rfl)) (pgs_cons (pg_name (i := 3) sc_alike.nd rfl (Or.inl rfl)) pgs_nil)))) (fun _ _ _ _ _ => pts_nil) (fun _ _ _ _ _ => (pe_call G_alike (hr.mono (by omega)) (by rfl) T.g_alike T.f_alike.kp T.b_alike .nil pass0 (pa_cons (pv 2) (pa_cons (pv 3) pa_nil))))) pa_nil)))))
 pss_nil)
 (pss_one (ps_ret (pe_and (pe_cmpR op_eq (pe_callB call_isi (by rfl) T.isinstance (by decide +kernel) (pa_cons (pv 0) (pa_cons (pe_bltn (v := .ty "bool") (u := .type "bool") (by rfl) T.bool (by decide +kernel) rfl) pa_nil))) (pe_callB call_isi (by rfl) T.isinstance (by decide +kernel) (pa_cons (pv 1) (pa_cons (pe_bltn (v := .ty "bool") (u := .type "bool") (by rfl) T.bool (by decide +kernel) rfl) pa_nil))) (nomark _)) (pe_one (pe_cmpR op_eq (pv 0) (pv 1) (nomark _))))))), ?_⟩
    refine ⟨_, rfl, _, _, .type "str", _, false, rfl, .ty _, .base (.str _), kit_ty (by decide +kernel), _, rfl, iteF ?_⟩
    refine ⟨_, rfl, _, _, .type "str", _, false, rfl, .ty _, .base (.str _), kit_ty (by decide +kernel), _, rfl, _, _, .type "str", _, false, rfl, .ty _, .base (.str _), kit_ty (by decide +kernel), rfl, _, rfl, iteT ⟨_, rfl, _, rfl, rfl, ?_⟩⟩
    exact k
end
end K5
set_option Elab.async false
set_option linter.all false
set_option maxRecDepth 100000
set_option maxHeartbeats 4000000
namespace K5
open PySem L2
local macro_rules | `(tactic| walk_at "rd1") => `(tactic| first
  | refine ⟨_, _, rfl, rfl, ?_⟩
  | refine ⟨_, _, _, _, rfl, rfl, SqL.of (by assumption), rfl, ?_⟩
  | refine ⟨_, _, _, _, rfl, rfl, (by assumption), rfl, ?_⟩
  | refine .inl ⟨_, rfl, ?_⟩
  | refine ⟨_, rfl, ?_⟩
  | refine ⟨(by unfold CMul; omega), ?_⟩
  | refine ⟨(by unfold CPow; omega), ?_⟩
  | refine ⟨(by (try dsimp only); omega), ?_⟩
  | refine ⟨(by unfold CDiv; omega), ?_⟩
  | fail "rd1")
local macro_rules | `(tactic| walk_at "rd") => `(tactic| repeat' (walk_at "rd1"))
section
variable {P : Program} {w : World} {K : PySem.W.Frag} {mg : Str → Option Value} {base : Heap} {A : Ad}

theorem valV_at : ∀ {kvs : List (Key × V)} {i : Nat} {k : Key} {v : V}, (kvs.map (·.1)).Nodup → kvs[i]? = some (k, v) → valV kvs k = some v
  | p :: r, 0, k, v, _, h => by
    have e : p = (k, v) := Option.some.inj h
    rw [valV_pos (by rw [e]), e]
  | p :: r, i + 1, k, v, hN, h => by
    have hr : r[i]? = some (k, v) := h
    rw [List.map_cons, List.nodup_cons] at hN
    rw [valV_neg (fun e => hN.1 (by rw [e]; exact List.mem_map.mpr ⟨(k, v), List.mem_of_getElem? hr, rfl⟩))]
    exact valV_at hN.2 hr
  | [], i, k, v, _, h => by simp at h
/-- each hangs on the clock or on one of a lesser rank -/
def Acy (rk : Str → Nat) (rows : Rows) : Prop := ∀ k h : Str, (k, h) ∈ rows → h = "clock" ∨ (h ∈ ksR rows ∧ rk h < rk k)
structure ROk (rk : Str → Nat) (rows : Rows) : Prop where
  nd : (ksR rows).Nodup
  nm : ∀ s ∈ ksR rows, Nm s ∧ PyData.strOk s = true
  len : rows.length < 64
  acy : Acy rk rows
  rkb : ∀ s ∈ ksR rows, rk s < 64
theorem ksR_len (rows : Rows) : (ksR rows).length = rows.length := by simp [ksR]
theorem kvR_nd {rows : Rows} (h : (ksR rows).Nodup) : ((kvR rows).map (·.1)).Nodup := by
  rw [kvR_keys]
  exact List.pairwise_map.mpr (h.imp fun n e => n (Sum.inr.inj e))
theorem kvR_at {rows : Rows} {i : Nat} {k : Key} {v : V} (h : (kvR rows)[i]? = some (k, v)) : ∃ a b : Str, k = .inr a ∧ v = .str b ∧ rows[i]? = some (a, b) := by
  unfold kvR at h
  rw [List.getElem?_map] at h
  cases e : rows[i]? with
  | none => rw [e] at h; cases h
  | some r => rw [e] at h; cases h; exact ⟨r.1, r.2, rfl, rfl, rfl⟩
theorem valR {rows : Rows} (nd : (ksR rows).Nodup) {k h : Str} (m : (k, h) ∈ rows) : valV (kvR rows) (.inr k) = some (.str h) := by
  obtain ⟨i, hi, e⟩ := List.getElem_of_mem m
  have : (kvR rows)[i]? = some (.inr k, .str h) := by
    unfold kvR
    rw [List.getElem?_map, List.getElem?_eq_getElem hi, e]; rfl
  exact valV_at (kvR_nd nd) this
theorem memR {rows : Rows} {k : Str} (m : k ∈ ksR rows) : ∃ h, (k, h) ∈ rows := by
  obtain ⟨r, hr, e⟩ := List.mem_map.mp m
  exact ⟨r.2, by rw [← e]; exact hr⟩
theorem memK {rows : Rows} {k h : Str} (m : (k, h) ∈ rows) : k ∈ ksR rows := List.mem_map.mpr ⟨_, m, rfl⟩
theorem memSnd {rows : Rows} (nd : (ksR rows).Nodup) {k h h' : Str} (m : (k, h) ∈ rows) (m' : (k, h') ∈ rows) : h = h' := by
  have a := valR nd m
  rw [valR nd m'] at a
  cases a
  rfl
/-! ### the checks -/
def spHook : Sp := fun vs H Q _ => ∃ (h : Str) (d : Addr) (od : Obj) (kvs : List (Key × V)) (ks : List Str), vs = [.str h, .ref d] ∧ H d = some (.frz od (.dK kvs)) ∧ kvs.map (·.1) = ks.map Sum.inr ∧ ks.length < 64 ∧ (h = "clock" ∨ h ∈ ks) ∧ ∀ H', Same H H' → Q (.bl true) H'
theorem ok_hook (T : Txt K mg A) : FnOk P w K mg base CX0 2 A.a_is_hook A.d_is_hook P_is_hook spHook := by
  have G_alike : FnOk P w K mg base CX0 1 A.a_alike A.d_alike P_alike spAlike := ok_alike T
  refine T.f_is_hook.ok sc_is_hook (fun vs H Q E h => ?_) (fun cdv A' outer s H vs Q E hr h => ?_)
  · obtain ⟨h, d, od, kvs, ks, rfl, _⟩ := h
    rfl
  · obtain ⟨h, d, od, kvs, ks, rfl, hd, hks, hl, hh, k⟩ := h
    refine ⟨_, (pss_one (ps_ret (pe_or (pe_cmpR op_eq (pv 0) (pe_glob (v := .str "clock") (by rfl) T.g_CLOCK.choose_spec ⟨_, rfl⟩) (nomark _)) (pe_one (pe_callB (cr_any rfl) (by rfl) T.any (by decide +kernel) (pa_cons (pe_lc (own := [("key", 2)]) (g := gName 2) (by rfl) sc_is_hook.nd (pi_keys (pv 1)) (blkOk_by (N := N_is_hook) (sc := defScope s_is_hook) (by decide +kernel)) (fun _ _ _ _ _ => pg_name (i := 2) sc_is_hook.nd rfl (Or.inl rfl)) (fun _ _ _ _ _ => pts_nil) (fun _ _ _ _ _ => (pe_call G_alike (hr.mono (by omega)) (by rfl) T.g_alike T.f_alike.kp T.b_alike .nil pass0 (pa_cons (pv 0) (pa_cons (pv 2) pa_nil))))) pa_nil)))))), ?_⟩
    refine ⟨_, rfl, rfl, _, rfl, ite2 (fun q => k _ (Same.refl _)) (fun q => ?_)⟩
    have hm : h ∈ ks := hh.resolve_left fun e => q (by rw [e]; rfl)
    have hlen : kvs.length = ks.length := by have := congrArg List.length hks; rwa [List.length_map, List.length_map] at this
    refine ⟨_, rfl, d, od, rfl, .inl ⟨kvs, hd, fun D hD => lc_it walk_keys (fun i H' => Same H H' ∧ H' D = some (.lst (((ks.take i).map fun k => decide (V.str h = V.str k)).map V.bl))) ⟨Same.new hD, upd_same⟩ (fun i H' _ z => z.1 _ _ hd) ?_ (fun H' z => ?_)⟩⟩
    · rintro i x H' H'' hi ⟨s1, hD'⟩ ⟨rfl, key, v, hk, rfl⟩
      have hi2 : i < ks.length := by rw [← hlen]; exact hi
      have ek : (kvs.map (·.1))[i]? = some key := by rw [List.getElem?_map, hk]; rfl
      rw [hks, List.getElem?_map, List.getElem?_eq_getElem hi2] at ek
      obtain rfl : Sum.inr ks[i] = key := Option.some.inj ek
      refine ⟨rfl, _, rfl, _, rfl, h, ks[i], rfl, _, hD', ?_, ?_, ?_⟩
      · rw [List.length_map, List.length_map, List.length_take]
        exact Nat.lt_of_le_of_lt (show min i _ ≤ 64 by omega) (by decide)
      · exact fun b u e => by rw [upd_ne (ne_of_none e hD)]; exact s1 _ _ e
      · rw [upd_same, List.take_succ, List.getElem?_eq_getElem hi2, List.map_append, List.map_append]; rfl
    · obtain ⟨s1, hD'⟩ := z
      refine ⟨D, _, rfl, SqL.of hD', ?_⟩
      have e : (((ks.take kvs.length).map fun k => decide (V.str h = V.str k)).any id) = true := by
        rw [List.take_of_length_le (by omega), List.any_map, List.any_eq_true]
        exact ⟨h, hm, decide_eq_true rfl⟩
      rw [e]
      exact k _ s1
def spChkR : Sp := fun vs H Q _ => ∃ (dd : Addr) (rk : Str → Nat) (rows : Rows), vs = [.ref dd] ∧ H dd = some (.dK (kvR rows)) ∧ ROk rk rows ∧ ∀ H', Same H H' → Q .non H'
theorem ok_chkr (T : Txt K mg A) : FnOk P w K mg base CX0 3 A.a_check_rows A.d_check_rows P_check_rows spChkR := by
  have G_is_name : FnOk P w K mg base CX0 1 A.a_is_name A.d_is_name P_is_name spIsName := ok_isname T
  have G_is_hook : FnOk P w K mg base CX0 2 A.a_is_hook A.d_is_hook P_is_hook spHook := ok_hook T
  refine T.f_check_rows.ok sc_check_rows (fun vs H Q E h => ?_) (fun cdv A' outer s H vs Q E hr h => ?_)
  · obtain ⟨dd, rk, rows, rfl, _⟩ := h
    rfl
  · obtain ⟨dd, rk, rows, rfl, hd, hO, k⟩ := h
    refine ⟨_, (pss_one (ps_lock (ps_for PassesOwn.never rfl (pi_keys (pv 0)) (pg_name (i := 1) sc_check_rows.nd rfl (Or.inl rfl))
 (pss_one (ps_if (PW.pt (pw_or (pt_not (pt_val (pe_call G_is_name (hr.mono (by omega)) (by rfl) T.g_is_name T.f_is_name.kp T.b_is_name .nil pass0 (pa_cons (pv 1) pa_nil)))) (pw_or1 (pt_not (pt_val (pe_call G_is_hook (hr.mono (by omega)) (by rfl) T.g_is_hook T.f_is_hook.kp T.b_is_hook .nil pass0 (pa_cons (pe_dget (hu_of hr) (pv 0) (pv 1) (fun _ _ => rfl)) (pa_cons (pv 0) pa_nil))))))))
 (pss_one ps_never)
 pss_nil))))), ?_⟩
    refine ⟨dd, _, hd, trivial, fun od => ?_⟩
    refine ⟨_, rfl, dd, od, rfl, .inl ⟨kvR rows, upd_same, for_it walk_keys (fun i σ' H' => ∃ x, σ' = [some (.ref dd), x] ∧ Same (upd H dd (.frz od (.dK (kvR rows)))) H') ⟨none, rfl, Same.refl _⟩ (fun i σ' H' _ ⟨_, _, s⟩ => s _ _ upd_same) ?_ ?_⟩⟩
    · rintro i x σ' H' H'' hi ⟨y, rfl, s1⟩ ⟨rfl, key, v, hk, rfl⟩
      obtain ⟨a, b, rfl, rfl, hr2⟩ := kvR_at hk
      have hm := List.mem_of_getElem? hr2
      refine ⟨_, rfl, a, rfl, (hO.nm a (memK hm)).1, fun H2 s2 => ⟨_, rfl, iteF ?_⟩⟩
      have hd2 : H2 dd = some (.frz od (.dK (kvR rows))) := s2 _ _ (s1 _ _ upd_same)
      refine ⟨_, rfl, _, rfl, dd, .str b, rfl, .inl ⟨kvR rows, .inr a, .inr ⟨od, hd2⟩, rfl, (valR hO.nd hm).symm⟩, _, rfl, b, dd, od, _, ksR rows, rfl, hd2, kvR_keys rows, by rw [ksR_len]; exact hO.len, (hO.acy a b hm).imp_right And.left, fun H3 s3 => ⟨_, rfl, iteF ?_⟩⟩
      exact ⟨_, rfl, (s1.trans s2).trans s3⟩
    · rintro σ' H' ⟨x, rfl, s1⟩
      refine ⟨s1 _ _ upd_same, k _ fun b u e => ?_⟩
      by_cases hb : b = dd
      · subst hb
        rw [hd] at e
        cases e
        exact upd_same
      · rw [upd_ne hb]
        exact s1 _ _ (by rw [upd_ne hb]; exact e)
end
end K5
set_option Elab.async false
set_option linter.all false
set_option maxRecDepth 100000
set_option maxHeartbeats 4000000
namespace K5
open PySem L2
local macro_rules | `(tactic| walk_at "rd1") => `(tactic| first
  | refine ⟨_, _, rfl, rfl, ?_⟩
  | refine ⟨_, _, _, _, rfl, rfl, SqL.of (by assumption), rfl, ?_⟩
  | refine ⟨_, _, _, _, rfl, rfl, (by assumption), rfl, ?_⟩
  | refine .inl ⟨_, rfl, ?_⟩
  | refine ⟨_, rfl, ?_⟩
  | refine ⟨(by unfold CMul; omega), ?_⟩
  | refine ⟨(by unfold CPow; omega), ?_⟩
  | refine ⟨(by (try dsimp only); omega), ?_⟩
  | refine ⟨(by unfold CDiv; omega), ?_⟩
  | fail "rd1")
local macro_rules | `(tactic| walk_at "rd") => `(tactic| repeat' (walk_at "rd1"))
section
variable {P : Program} {w : World} {K : PySem.W.Frag} {mg : Str → Option Value} {base : Heap} {A : Ad}

/-- what a climb may stand at, below the dish nm -/
def At (rk : Str → Nat) (rows : Rows) (nm h : Str) : Prop := h = "clock" ∨ (h ∈ ksR rows ∧ rk h < rk nm)
def msr (rk : Str → Nat) (h : Str) : Nat := if h = "clock" then 0 else rk h + 1
def spFrom : Sp := fun vs H Q _ => ∃ (nm : Str) (d : Addr) (rk : Str → Nat) (rows : Rows), vs = [.str nm, .ref d] ∧ H d = some (.dK (kvR rows)) ∧ ROk rk rows ∧ nm ∈ ksR rows ∧
  ∀ (p : Addr) (H' : Hp), Same H H' → H p = none → H' p = some (.lst []) → Q (.ref p) H'
theorem ok_from (T : Txt K mg A) : FnOk P w K mg base CX0 1 A.a_round_from A.d_round_from P_round_from spFrom := by
  refine T.f_round_from.ok sc_round_from (fun vs H Q E h => ?_) (fun cdv A' outer s H vs Q E hr h => ?_)
  · obtain ⟨nm, d, rk, rows, rfl, _⟩ := h
    rfl
  · obtain ⟨nm, d, rk, rows, rfl, hd, hO, hn, k⟩ := h
    refine ⟨_, (pss_cons (ps_set (i := 2) sc_round_from.nd rfl (Or.inl rfl) (pe_lst (pa_cons (pv 0) pa_nil)))
 (pss_cons (ps_set (i := 3) sc_round_from.nd rfl (Or.inl rfl) (pe_dget (hu_of hr) (pv 1) (pv 0) (fun _ _ => rfl)))
 (pss_cons (ps_while PassesOwn.never (PW.pt (pw_and (pt_cmpR op_ne (pv 3) (pe_glob (v := .str "clock") (by rfl) T.g_CLOCK.choose_spec ⟨_, rfl⟩) (nomark _)) (pw_and (pt_cmpR op_ne (pv 3) (pv 0) (nomark _)) (pw_and1 (pt_cmpR op_lt (pe_callB call_len_seq (by rfl) T.len PySem.boot_len (pa_cons (pv 2) pa_nil)) (pe_callB call_lenD (by rfl) T.len PySem.boot_len (pa_cons (pv 1) pa_nil)) (nomark _))))))
 (pss_cons (ps_expr (pe_bm PySem.F.plainAttrs_list PySem.F.slot_list_append PySem.F.type_list_append mt_append (pv 2) (pa_cons (pv 3) pa_nil)))
 (pss_one (ps_set (i := 3) sc_round_from.nd rfl (Or.inl rfl) (pe_dget (hu_of hr) (pv 1) (pv 3) (fun _ _ => rfl))))))
 (pss_one (ps_ret (pe_ifExp (pt_cmpR op_eq (pv 3) (pv 0) (nomark _)) (pv 2) (pe_lst pa_nil))))))), ?_⟩
    obtain ⟨h0, hm0⟩ := memR hn
    refine ⟨_, rfl, by show 1 ≤ sizeLine; decide, fun p hp => ?_⟩
    have s0 : Same H (upd H p (.lst [.str nm])) := Same.new hp
    refine ⟨_, rfl, _, rfl, d, _, rfl, .inl ⟨kvR rows, .inr nm, .inl (s0 _ _ hd), rfl, (valR hO.nd hm0).symm⟩, ?_⟩
    have npd : d ≠ p := ne_of_none hd hp
    refine while_ex (fun mm σ' H' => ∃ (xs : List V) (h : Str), σ' = [some (.str nm), some (.ref d), some (.ref p), some (.str h)] ∧ Same H H' ∧ H' p = some (.lst xs) ∧ At rk rows nm h ∧ mm = msr rk h)
      (fun σ' H' => ∃ (h : Str), σ' = [some (.str nm), some (.ref d), some (.ref p), some (.str h)] ∧ Same H H' ∧ At rk rows nm h)
      ⟨_, h0, rfl, s0, upd_same, hO.acy _ _ hm0, rfl⟩ (fun nx hnx => ?_) ?_
    · rintro mm σ' H' ⟨xs, h, rfl, s1, hp1, hat, rfl⟩
      refine ⟨_, rfl, rfl, _, rfl, ite2 (fun c1 => ?_) (fun _ => hnx _ _ ⟨h, rfl, s1, hat⟩)⟩
      have hne : h ≠ "clock" := fun e => by rw [e] at c1; cases c1
      obtain ⟨hin, hlt⟩ := hat.resolve_left hne
      refine ⟨_, rfl, _, rfl, rfl, _, rfl, ite2 (fun c2 => ?_) (fun _ => hnx _ _ ⟨h, rfl, s1, hat⟩)⟩
      refine ⟨_, rfl, _, _, rfl, .inl (SqL.of hp1), _, rfl, d, _, rfl, s1 _ _ hd, _, _, rfl, rfl, _, rfl, ite2 (fun c3 => ?_) (fun _ => hnx _ _ ⟨h, rfl, s1, hat⟩)⟩
      have hl : xs.length < 64 := by
        have q := of_decide_eq_true c3
        have := hO.len
        rw [kvR_len] at q
        omega
      obtain ⟨h2, hm2⟩ := memR hin
      refine ⟨_, fun _ _ z => z, ?_⟩
      refine ⟨_, rfl, .inl ⟨rfl, _, SqL.of hp1⟩, _, rfl, _, _, _, rfl, rfl, hp1, Nat.lt_of_lt_of_le hl (by decide), ?_⟩
      have s2 : Same H (upd H' p (.lst (xs ++ [.str h]))) := fun b u e => by rw [upd_ne (ne_of_none e hp)]; exact s1 _ _ e
      refine ⟨_, rfl, _, rfl, d, _, rfl, .inl ⟨kvR rows, .inr h, .inl (s2 _ _ hd), rfl, (valR hO.nd hm2).symm⟩, ?_⟩
      refine ⟨msr rk h2, ?_, _, h2, rfl, s2, upd_same, ?_, rfl⟩
      · unfold msr
        rw [if_neg hne]
        rcases hO.acy _ _ hm2 with e | e
        · rw [if_pos e]; omega
        · split
          · omega
          · have := e.2; omega
      · exact (hO.acy _ _ hm2).imp_right fun e => ⟨e.1, Nat.lt_trans e.2 hlt⟩
    · rintro σ' H' ⟨h, rfl, s1, hat⟩
      have hne : h ≠ nm := fun e => by
        rcases hat with q | q
        · exact (hO.nm nm hn).1.noclock (e.symm.trans q)
        · rw [e] at q; exact Nat.lt_irrefl _ q.2
      refine ⟨_, rfl, _, rfl, rfl, _, rfl, ite2 (fun q => absurd (V.str.inj (of_decide_eq_true q)) hne) (fun _ => ⟨Nat.zero_le _, fun q hq => ?_⟩)⟩
      exact k q _ (s1.trans (Same.new hq)) (s1.free hq) upd_same
def spRounds : Sp := fun vs H Q _ => ∃ (dd : Addr) (rk : Str → Nat) (rows : Rows), vs = [.ref dd] ∧ H dd = some (.dK (kvR rows)) ∧ ROk rk rows ∧ ∀ H', Same H H' → Q .non H'
theorem ok_rounds (T : Txt K mg A) : FnOk P w K mg base CX0 2 A.a_check_rounds A.d_check_rounds P_check_rounds spRounds := by
  have G_round_from : FnOk P w K mg base CX0 1 A.a_round_from A.d_round_from P_round_from spFrom := ok_from T
  refine T.f_check_rounds.ok sc_check_rounds (fun vs H Q E h => ?_) (fun cdv A' outer s H vs Q E hr h => ?_)
  · obtain ⟨dd, rk, rows, rfl, _⟩ := h
    rfl
  · obtain ⟨dd, rk, rows, rfl, hd, hO, k⟩ := h
    refine ⟨_, (pss_one (ps_for PassesOwn.never rfl (pi_list (pe_callB (call_sortedD rfl) (by rfl) T.sorted (by decide +kernel) (pa_cons (pv 0) pa_nil))) (pg_name (i := 1) sc_check_rounds.nd rfl (Or.inl rfl))
 (pss_cons (ps_set (i := 2) sc_check_rounds.nd rfl (Or.inl rfl) (pe_call G_round_from (hr.mono (by omega)) (by rfl) T.g_round_from T.f_round_from.kp T.b_round_from .nil pass0 (pa_cons (pv 1) (pa_cons (pv 0) pa_nil))))
 (pss_one (ps_if (pt_truth (pv 2) (by intro _; rfl))
 (pss_one ps_never)
 pss_nil))))), ?_⟩
    refine ⟨_, rfl, dd, _, ksR rows, rfl, .inl hd, kvR_keys rows, by rw [ksR_len]; exact hO.len, fun ys q hperm _ hq => ?_⟩
    refine ⟨q, rfl, ⟨_, SqL.of upd_same⟩, for_it walk_list (fun i σ' H' => ∃ x y, σ' = [some (.ref dd), x, y] ∧ Same (upd H q (.lst (ys.map V.str))) H') ⟨_, _, rfl, Same.refl _⟩ (fun i σ' H' _ z => SqL.of (z.choose_spec.choose_spec.2 _ _ upd_same)) ?_ ?_⟩
    · rintro i v σ' H' H'' hi ⟨x, y, rfl, s1⟩ ⟨rfl, hx⟩
      obtain ⟨hi, rfl⟩ := str_at hx
      have S1 : Same H H'' := (Same.new hq).trans s1
      refine ⟨_, rfl, _, rfl, ys[i], dd, rk, rows, rfl, S1 _ _ hd, hO, hperm.mem_iff.mp (List.getElem_mem hi), fun p H3 s3 hp hp3 => ?_⟩
      refine ⟨_, rfl, false, ?_, iteF ?_⟩
      · exact .inl ⟨_, SqL.of hp3, rfl⟩
      · exact ⟨_, _, rfl, s1.trans s3⟩
    · rintro σ' H' ⟨x, y, rfl, s1⟩
      exact k _ ((Same.new hq).trans s1)
end
end K5
set_option Elab.async false
set_option linter.all false
set_option maxRecDepth 100000
set_option maxHeartbeats 4000000
namespace K5
open PySem L2
local macro_rules | `(tactic| walk_at "rd1") => `(tactic| first
  | refine ⟨_, _, rfl, rfl, ?_⟩
  | refine ⟨_, _, _, _, rfl, rfl, SqL.of (by assumption), rfl, ?_⟩
  | refine ⟨_, _, _, _, rfl, rfl, (by assumption), rfl, ?_⟩
  | refine .inl ⟨_, rfl, ?_⟩
  | refine ⟨_, rfl, ?_⟩
  | refine ⟨(by unfold CMul; omega), ?_⟩
  | refine ⟨(by unfold CPow; omega), ?_⟩
  | refine ⟨(by (try dsimp only); omega), ?_⟩
  | refine ⟨(by unfold CDiv; omega), ?_⟩
  | fail "rd1")
local macro_rules | `(tactic| walk_at "rd") => `(tactic| repeat' (walk_at "rd1"))
section
variable {P : Program} {w : World} {K : PySem.W.Frag} {mg : Str → Option Value} {base : Heap} {A : Ad}

theorem fillD {J : It} {n : Nat} {G : Hp → Prop} {Y : Nat → Hp → V → Hp → Prop} (wk : Walk J n G Y) {g : TG} {tt : TT} {tk tv : TE} {vs : List Nat} {σ : St} {H1 : Hp} {D : Addr} {Qd : Hp → Prop} (I : Nat → Hp → Prop)
    (i0 : I 0 (upd H1 D (.dK []))) (iG : ∀ i H, i ≤ n → I i H → G H)
    (step : ∀ i x H H', i < n → I i H → Y i H x H' → g x (wipe σ vs) H' fun σ2 H2 => wipe σ2 vs = wipe σ vs ∧ tt σ2 H2 fun b H3 =>
      if b = true then tk σ2 H3 fun y H4 => tv σ2 H4 fun z H5 => ∃ kvs k, y = kV k ∧ H5 D = some (.dK kvs) ∧ kvs.length < sizeLine ∧ I (i + 1) (upd H5 D (.dK (putK kvs k z))) else I (i + 1) H3)
    (last : ∀ H, I n H → Qd H) :
    ∃ W : Nat → Nat → Hp → Prop, (∃ m, W 0 m (upd H1 D (.dK []))) ∧ ∀ i m H, W i m H →
      (J.stop i H ∧ Qd H) ∨ (J.go i H ∧ ∃ Nx : Hp → Prop, (∀ H', Nx H' → ∃ m', m' < m ∧ W (i + 1) m' H') ∧ ∀ x H', J.yld i H x H' → g x (wipe σ vs) H' fun σ2 H2 => wipe σ2 vs = wipe σ vs ∧ tt σ2 H2 fun b H3 =>
        if b = true then tk σ2 H3 fun y H4 => tv σ2 H4 fun z H5 => ∃ kvs k, y = kV k ∧ H5 D = some (.dK kvs) ∧ kvs.length < sizeLine ∧ Nx (upd H5 D (.dK (putK kvs k z))) else Nx H3) := by
  refine ⟨fun i m H => m + i = n ∧ I i H, ⟨n, rfl, i0⟩, fun i m H ⟨e, h⟩ => ?_⟩
  have g' := iG i H (by omega) h
  rcases Nat.lt_or_ge i n with lt | ge
  · exact .inr ⟨wk.goes i H lt g', I (i + 1), fun H' h' => ⟨m - 1, by omega, by omega, h'⟩, fun x H' y => step i x H H' lt h (wk.yields i H x H' lt g' y)⟩
  · obtain rfl : i = n := by omega
    exact .inl ⟨wk.stops H g', last H h⟩
/-- the same rows, ascending -/
structure Asc (rows rs : Rows) : Prop where
  keys : (ksR rs).Perm (ksR rows)
  mem : ∀ k h, (k, h) ∈ rs → (k, h) ∈ rows
  asc : PyProof.Rows.sortedS (ksR rs) = true
theorem Asc.ok {rk : Str → Nat} {rows rs : Rows} (a : Asc rows rs) (h : ROk rk rows) : ROk rk rs := by
  have l := a.keys.length_eq
  rw [ksR_len, ksR_len] at l
  exact ⟨a.keys.nodup_iff.mpr h.nd, fun s m => h.nm s (a.keys.mem_iff.mp m), by rw [l]; exact h.len, fun k b m => (h.acy k b (a.mem k b m)).imp_right fun e => ⟨a.keys.mem_iff.mpr e.1, e.2⟩, fun s m => h.rkb s (a.keys.mem_iff.mp m)⟩
/-- an instance of Hanging at p -/
structure HgAt (C : Addr) (H : Hp) (p q : Addr) (rs : Rows) : Prop where
  ex : ∃ dx, H p = some (.ins C dx [("hooks", .ref q)])
  at_ : H q = some (.dK (kvR rs))
theorem HgAt.up {C : Addr} {H H' : Hp} {p q : Addr} {rs : Rows} (h : HgAt C H p q rs) (s : Same H H') : HgAt C H' p q rs := ⟨h.ex.imp fun _ e => s _ _ e, s _ _ h.at_⟩
def spHInit (C : Addr) : Sp := fun vs H Q _ => ∃ (p dx dd : Addr) (rk : Str → Nat) (rows : Rows), vs = [.ref p, .ref dd] ∧ H p = some (.ins C dx []) ∧ H dd = some (.dK (kvR rows)) ∧ ROk rk rows ∧
  ∀ (H' : Hp) (q : Addr) (rs : Rows), HgAt C H' p q rs → H q = none → Asc rows rs → Same (er H p) (er H' p) → Q .non H'
theorem ok_hinit (T : Txt K mg A) : FnOk P w K mg base CX0 4 A.a_Hanging___init__ A.d_Hanging___init__ P_Hanging___init__ (spHInit A.a_Hanging) := by
  have G_check_rows : FnOk P w K mg base CX0 3 A.a_check_rows A.d_check_rows P_check_rows spChkR := ok_chkr T
  have G_check_rounds : FnOk P w K mg base CX0 2 A.a_check_rounds A.d_check_rounds P_check_rounds spRounds := ok_rounds T
  refine T.f_Hanging___init__.ok sc_Hanging___init__ (fun vs H Q E h => ?_) (fun cdv A' outer s H vs Q E hr h => ?_)
  · obtain ⟨p, dx, dd, rk, rows, rfl, _⟩ := h
    rfl
  · obtain ⟨p, dx, dd, rk, rows, rfl, hp, hd, hO, k⟩ := h
    refine ⟨_, PSs.nox (pss_cons (ps_expr (pe_call G_check_rows (hr.mono (by omega)) (by rfl) T.g_check_rows T.f_check_rows.kp T.b_check_rows .nil pass0 (pa_cons (pv 1) pa_nil)))
 (pss_cons (ps_expr (pe_call G_check_rounds (hr.mono (by omega)) (by rfl) T.g_check_rounds T.f_check_rounds.kp T.b_check_rounds .nil pass0 (pa_cons (pv 1) pa_nil)))
 (pss_one (ps_fld (pv 0) (pe_dc (own := [("name", 2)]) (g := gName 2) (by rfl) sc_Hanging___init__.nd (pi_list (pe_callB (call_sortedD rfl) (by rfl) T.sorted (by decide +kernel) (pa_cons (pv 1) pa_nil))) (blkOk_by (N := N_Hanging___init__) (sc := defScope s_Hanging___init__) (by decide +kernel)) (fun _ _ _ _ _ => pg_name (i := 2) sc_Hanging___init__.nd rfl (Or.inl rfl)) (fun _ _ _ _ _ => pts_nil) (fun _ _ _ _ _ => (pv 2)) (fun _ _ _ _ _ => (pe_dget (hu_of hr) (pv 1) (pv 2) (fun _ _ => rfl)))) rfl)))), ?_⟩
    have npd : dd ≠ p := ne_of hd hp (fun z => nomatch z)
    refine ⟨_, rfl, dd, rk, rows, rfl, hd, hO, fun H1 s1 => ?_⟩
    refine ⟨_, rfl, dd, rk, rows, rfl, s1 _ _ hd, hO, fun H2 s2 => ?_⟩
    have S2 := s1.trans s2
    have hd2 := S2 _ _ hd
    refine ⟨_, rfl, dd, _, ksR rows, rfl, .inl hd2, kvR_keys rows, by rw [ksR_len]; exact hO.len, fun ys q hperm hsort hq => ?_⟩
    have yN : ys.Nodup := hperm.nodup_iff.mpr hO.nd
    have yl : ys.length < 64 := by rw [hperm.length_eq, ksR_len]; exact hO.len
    refine ⟨q, rfl, ⟨_, SqL.of upd_same⟩, fun D hD => fillD walk_list (fun i H' => Same (upd H2 q (.lst (ys.map V.str))) H' ∧ ∃ rs : Rows, H' D = some (.dK (kvR rs)) ∧ ksR rs = ys.take i ∧ ∀ k h, (k, h) ∈ rs → (k, h) ∈ rows) ⟨Same.new hD, [], upd_same, rfl, fun _ _ m => by cases m⟩ (fun i H' _ h => SqL.of (h.1 _ _ upd_same)) ?_ (fun H4 h4 => ?_)⟩
    · rintro i x H' H'' hi ⟨s4, rs, hrs, hks, hsub⟩ ⟨rfl, hx⟩
      obtain ⟨hi, rfl⟩ := str_at hx
      have hm : ys[i] ∈ ksR rows := hperm.mem_iff.mp (List.getElem_mem hi)
      obtain ⟨h, hh⟩ := memR hm
      have S4 : Same H H'' := S2.trans ((Same.new hq).trans s4)
      have kl : rs.length = i := by
        have := congrArg List.length hks
        rw [ksR_len, List.length_take] at this
        omega
      have hk : (Sum.inr ys[i] : Key) ∉ (kvR rs).map (·.1) := by
        rw [kvR_keys, hks]
        intro m
        obtain ⟨z, hz, ez⟩ := List.mem_map.mp m
        exact not_in_take yN hi (by rw [← Sum.inr.inj ez]; exact hz)
      refine ⟨rfl, _, rfl, _, rfl, _, rfl, dd, .str h, rfl, .inl ⟨kvR rows, .inr ys[i], .inl (S4 _ _ hd), rfl, (valR hO.nd hh).symm⟩, kvR rs, .inr ys[i], rfl, hrs, ?_, ?_, ?_⟩
      · rw [kvR_len, kl]; exact Nat.lt_of_lt_of_le (show i < 65 by omega) (by decide)
      · exact fun c u e => by rw [upd_ne (ne_of_none e hD)]; exact s4 _ _ e
      · rw [put_new _ _ _ hk, ← kvR_app]
        refine ⟨_, upd_same, ?_, fun a b m => ?_⟩
        · rw [ksR_app, hks, List.take_succ, List.getElem?_eq_getElem hi]; rfl
        · rcases List.mem_append.mp m with m | m
          · exact hsub a b m
          · cases List.mem_singleton.mp m; exact hh
    · obtain ⟨s4, rs, hrs, hks, hsub⟩ := h4
      rw [List.length_map, List.take_length] at hks
      have S4 : Same H H4 := S2.trans ((Same.new hq).trans s4)
      have hp4 := S4 _ _ hp
      have nDp : D ≠ p := fun e => by rw [e, hp4] at hrs; cases hrs
      refine ⟨_, rfl, p, A.a_Hanging, dx, _, rfl, hp4, T.cl, T.nH, by decide, ?_⟩
      refine k _ D rs ⟨⟨dx, upd_same⟩, by rw [upd_ne nDp]; exact hrs⟩ (((S2.trans (Same.new hq))).free hD) ⟨by rw [hks]; exact hperm, hsub, by rw [hks]; exact hsort⟩ ?_
      rw [er_upd]; exact er_mono S4
def spHRows (C : Addr) : Sp := fun vs H Q _ => ∃ (p q : Addr) (rs : Rows), vs = [.ref p] ∧ HgAt C H p q rs ∧ ∀ l, H l = none → Q (.ref l) (upd H l (.dK (kvR rs)))
theorem ok_hrows (T : Txt K mg A) : FnOk P w K mg base CX0 1 A.a_Hanging_rows A.d_Hanging_rows P_Hanging_rows (spHRows A.a_Hanging) := by
  refine T.f_Hanging_rows.ok sc_Hanging_rows (fun vs H Q E h => ?_) (fun cdv A' outer s H vs Q E hr h => ?_)
  · obtain ⟨p, q, rs, rfl, _⟩ := h
    rfl
  · obtain ⟨p, q, rs, rfl, ⟨⟨dx, hp⟩, hq⟩, k⟩ := h
    refine ⟨_, (pss_one (ps_ret (pe_callTy call_dictD (by rfl) T.dict (by decide +kernel) (pa_cons (pe_fld (pv 0) rfl) pa_nil)))), ?_⟩
    exact ⟨_, rfl, p, A.a_Hanging, dx, _, _, rfl, hp, T.cl, T.nH, rfl, q, _, rfl, .inl hq, k⟩
end
end K5
set_option Elab.async false
set_option linter.all false
set_option maxRecDepth 100000
set_option maxHeartbeats 4000000
namespace K5
open PySem L2
local macro_rules | `(tactic| walk_at "rd1") => `(tactic| first
  | refine ⟨_, _, rfl, rfl, ?_⟩
  | refine ⟨_, _, _, _, rfl, rfl, SqL.of (by assumption), rfl, ?_⟩
  | refine ⟨_, _, _, _, rfl, rfl, (by assumption), rfl, ?_⟩
  | refine .inl ⟨_, rfl, ?_⟩
  | refine ⟨_, rfl, ?_⟩
  | refine ⟨(by unfold CMul; omega), ?_⟩
  | refine ⟨(by unfold CPow; omega), ?_⟩
  | refine ⟨(by (try dsimp only); omega), ?_⟩
  | refine ⟨(by unfold CDiv; omega), ?_⟩
  | fail "rd1")
local macro_rules | `(tactic| walk_at "rd") => `(tactic| repeat' (walk_at "rd1"))
section
variable {P : Program} {w : World} {K : PySem.W.Frag} {mg : Str → Option Value} {base : Heap} {A : Ad}

inductive Path (rows : Rows) : Str → List Str → Prop
  | clock : Path rows "clock" []
  | step {h h2 : Str} {ws : List Str} (ne : h ≠ "clock") (m : (h, h2) ∈ rows) (r : Path rows h2 ws) : Path rows h (h :: ws)
theorem Path.det {rows : Rows} (nd : (ksR rows).Nodup) : ∀ {h : Str} {ws ws' : List Str}, Path rows h ws → Path rows h ws' → ws = ws'
  | _, _, _, .clock, .clock => rfl
  | _, _, _, .clock, .step ne _ _ => absurd rfl ne
  | _, _, _, .step ne _ _, .clock => absurd rfl ne
  | _, _, _, .step _ m r, .step _ m' r' => by
    cases memSnd nd m m'
    rw [r.det nd r']
theorem path_ex {rk : Str → Nat} {rows : Rows} (O : ROk rk rows) : ∀ (n : Nat) (h : Str), msr rk h ≤ n → (h = "clock" ∨ h ∈ ksR rows) → ∃ ws, Path rows h ws ∧ ws.length ≤ msr rk h := by
  intro n
  induction n with
  | zero =>
    intro h hn hh
    have e : h = "clock" := Decidable.byContradiction fun z => by unfold msr at hn; rw [if_neg z] at hn; omega
    subst e
    exact ⟨[], .clock, Nat.zero_le _⟩
  | succ n ih =>
    intro h hn hh
    by_cases e : h = "clock"
    · subst e; exact ⟨[], .clock, Nat.zero_le _⟩
    · obtain ⟨h2, m⟩ := memR (hh.resolve_left e)
      have lt : msr rk h2 + 1 ≤ msr rk h := by
        have := O.acy _ _ m
        unfold msr
        rw [if_neg e]
        rcases this with q | q
        · rw [if_pos q]; omega
        · split
          · omega
          · have := q.2; omega
      obtain ⟨ws, p, l⟩ := ih h2 (by omega) ((O.acy _ _ m).imp_right And.left)
      exact ⟨h :: ws, .step e m p, by rw [List.length_cons]; omega⟩
theorem msr_le {rk : Str → Nat} {rows : Rows} (O : ROk rk rows) {h : Str} (hh : h = "clock" ∨ h ∈ ksR rows) : msr rk h ≤ 64 := by
  unfold msr
  split
  · omega
  · rename_i e
    have := O.rkb h (hh.resolve_left e)
    omega
/-- the way of a dish, from its hook on -/
def Way (rows : Rows) (nm : Str) (ws : List Str) : Prop := ∃ h, (nm, h) ∈ rows ∧ Path rows h ws ∧ ws.length ≤ 64
theorem way_ex {rk : Str → Nat} {rows : Rows} (O : ROk rk rows) {nm : Str} (hm : nm ∈ ksR rows) : ∃ ws, Way rows nm ws := by
  obtain ⟨h, m⟩ := memR hm
  have hh := (O.acy _ _ m).imp_right And.left
  obtain ⟨ws, p, l⟩ := path_ex O _ h (Nat.le_refl _) hh
  exact ⟨ws, h, m, p, Nat.le_trans l (msr_le O hh)⟩
def spWayUp : Sp := fun vs H Q _ => ∃ (q : Addr) (rs : Rows) (nm : Str) (ws : List Str), vs = [.str nm, .ref q] ∧ H q = some (.dK (kvR rs)) ∧ (ksR rs).Nodup ∧ Way rs nm ws ∧ ∀ l H', Same H H' → H l = none → H' l = some (.lst (ws.reverse.map V.str)) → Q (.ref l) H'
theorem ok_wayup (T : Txt K mg A) : FnOk P w K mg base CX0 1 A.a_way_up A.d_way_up P_way_up spWayUp := by
  refine T.f_way_up.ok sc_way_up (fun vs H Q E h => ?_) (fun cdv A' outer s H vs Q E hr h => ?_)
  · obtain ⟨q, rs, nm, ws, rfl, _⟩ := h
    rfl
  · obtain ⟨q, rs, nm, ws, rfl, hq, nd, ⟨h, m, pa, hl⟩, k⟩ := h
    refine ⟨_, (pss_cons (ps_set (i := 2) sc_way_up.nd rfl (Or.inl rfl) (pe_lst pa_nil))
 (pss_cons (ps_set (i := 3) sc_way_up.nd rfl (Or.inl rfl) (pe_dget (hu_of hr) (pv 1) (pv 0) (fun _ _ => rfl)))
 (pss_cons (ps_while PassesOwn.never (pt_cmpR op_ne (pv 3) (pe_glob (v := .str "clock") (by rfl) T.g_CLOCK.choose_spec ⟨_, rfl⟩) (nomark _))
 (pss_cons (ps_expr (pe_bm PySem.F.plainAttrs_list PySem.F.slot_list_append PySem.F.type_list_append mt_append (pv 2) (pa_cons (pv 3) pa_nil)))
 (pss_one (ps_set (i := 3) sc_way_up.nd rfl (Or.inl rfl) (pe_dget (hu_of hr) (pv 1) (pv 3) (fun _ _ => rfl))))))
 (pss_one (ps_ret (pe_revL (pv 2))))))), ?_⟩
    refine ⟨Nat.zero_le _, fun l nl => ?_⟩
    have s0 : Same H (upd H l (.lst [])) := Same.new nl
    refine ⟨_, rfl, _, rfl, q, _, rfl, .inl ⟨kvR rs, .inr nm, .inl (s0 _ _ hq), rfl, (valR nd m).symm⟩, ?_⟩
    refine while_ex (fun mm σ' H' => ∃ (as bs : List Str) (h : Str), σ' = [some (.str nm), some (.ref q), some (.ref l), some (.str h)] ∧ Same H H' ∧ H' l = some (.lst (as.map V.str)) ∧ as ++ bs = ws ∧ Path rs h bs ∧ mm = bs.length)
        (fun σ' H' => ∃ (u : V), σ' = [some (.str nm), some (.ref q), some (.ref l), some u] ∧ Same H H' ∧ H' l = some (.lst (ws.map V.str)))
        ⟨[], ws, h, rfl, s0, upd_same, rfl, pa, rfl⟩ (fun nx hnx => ?_) ?_
    · rintro mm σ' H' ⟨as, bs, h, rfl, s1, hl1, hab, pb, rfl⟩
      refine ⟨_, rfl, rfl, _, rfl, ite2 (fun c1 => ?_) (fun c1 => ?_)⟩
      · cases pb with
        | clock => cases c1
        | @step _ h2 bs' ne m2 r =>
          refine ⟨_, fun _ _ z => z, ?_⟩
          have la : as.length < 64 := by
            have := congrArg List.length hab
            rw [List.length_append, List.length_cons] at this
            omega
          refine ⟨_, rfl, .inl ⟨rfl, _, SqL.of hl1⟩, _, rfl, _, _, _, rfl, rfl, hl1, by rw [List.length_map]; exact Nat.lt_of_lt_of_le la (by decide), ?_⟩
          have s2 : Same H (upd H' l (.lst (as.map V.str ++ [.str h]))) := fun b u e => by rw [upd_ne (ne_of_none e nl)]; exact s1 _ _ e
          refine ⟨_, rfl, _, rfl, q, _, rfl, .inl ⟨kvR rs, .inr h, .inl (s2 _ _ hq), rfl, (valR nd m2).symm⟩, ?_⟩
          exact ⟨bs'.length, Nat.lt_succ_self _, as ++ [h], bs', h2, rfl, s2, by rw [upd_same, List.map_append]; rfl, by rw [List.append_assoc]; exact hab, r, rfl⟩
      · cases pb with
        | clock =>
          rw [List.append_nil] at hab
          subst hab
          exact hnx _ _ ⟨_, rfl, s1, hl1⟩
        | step ne m2 r => exact absurd (by rw [decide_eq_false (fun z => ne (V.str.inj z))]; rfl) c1
    · rintro σ' H' ⟨u, rfl, s1, hl1⟩
      refine ⟨_, rfl, l, _, rfl, SqL.of hl1, fun r hr => ?_⟩
      refine k r _ (s1.trans (Same.new hr)) (s1.free hr) ?_
      rw [upd_same, List.map_reverse]
theorem idx_of_take {ks : List Str} (nd : ks.Nodup) {i : Nat} {k : Str} (h : ks[i]? = some k) : ks.idxOf k = i := by
  obtain ⟨hi, e⟩ := List.getElem?_eq_some_iff.mp h
  have hm : k ∈ ks := by rw [← e]; exact List.getElem_mem hi
  have l1 := List.idxOf_lt_length_of_mem hm
  have e1 : ks[ks.idxOf k] = ks[i] := by rw [List.getElem_idxOf]; exact e.symm
  exact (List.getElem_inj nd).mp e1
theorem idx_lt {ks : List Str} (nd : ks.Nodup) {i : Nat} {h : Str} (m : h ∈ ks.take i) : ks.idxOf h < i := by
  obtain ⟨j, hj, e⟩ := List.getElem_of_mem m
  rw [List.length_take] at hj
  rw [List.getElem_take] at e
  have q : ks[j]? = some h := by rw [List.getElem?_eq_getElem (by omega), e]
  rw [idx_of_take nd q]
  omega
theorem ROk.tree {rows : Rows} (nd : (ksR rows).Nodup) (nm : ∀ s ∈ ksR rows, Nm s ∧ PyData.strOk s = true) (len : rows.length < 64) (t : Tree rows) : ROk (fun s => (ksR rows).idxOf s) rows := by
  refine ⟨nd, nm, len, fun k h m => ?_, fun s m => Nat.lt_trans (List.idxOf_lt_length_of_mem m) (by rw [ksR_len]; exact len)⟩
  obtain ⟨i, hi, e⟩ := List.getElem_of_mem m
  have q : rows[i]? = some (k, h) := by rw [List.getElem?_eq_getElem hi, e]
  refine (t i k h q).imp_right fun m2 => ?_
  have m3 : h ∈ (ksR rows).take i := by
    unfold ksR at m2 ⊢
    rw [← List.map_take]; exact m2
  refine ⟨List.mem_of_mem_take m3, ?_⟩
  show (ksR rows).idxOf h < (ksR rows).idxOf k
  have qk : (ksR rows)[i]? = some k := by unfold ksR; rw [List.getElem?_map, q]; rfl
  rw [idx_of_take nd qk]
  exact idx_lt nd m3
theorem sle_of_rising : ∀ {p : Str} {l : List Str}, PyProof.Rows.risingS p l = true → (p :: l).Pairwise sle
  | _, [], _ => List.pairwise_singleton ..
  | p, x :: r, h => by
    unfold PyProof.Rows.risingS at h
    rw [Bool.and_eq_true] at h
    have ih := sle_of_rising h.2
    have hx : sle p x := fun z => by
      have e : PySem.Spec.ltCps x.cps.toList p.cps.toList = true := by rw [PyProof.Rows.ltCps_eq]; exact decide_eq_true z
      rw [e] at h; cases h.1
    refine List.pairwise_cons.mpr ⟨fun y hy => ?_, ih⟩
    rcases List.mem_cons.mp hy with e | hy
    · rw [e]; exact hx
    · exact sle_trans hx ((List.pairwise_cons.mp ih).1 y hy)
theorem sle_sorted {l : List Str} (h : PyProof.Rows.sortedS l = true) : l.Pairwise sle := by
  cases l with
  | nil => exact List.Pairwise.nil
  | cons x r => exact sle_of_rising h
theorem sle_anti {x y : Str} (a : sle x y) (b : sle y x) : x = y := by
  obtain ⟨x⟩ := x
  obtain ⟨y⟩ := y
  have e : x.toList = y.toList := List.le_antisymm (List.not_lt.mp a) (List.not_lt.mp b)
  rw [Array.toList_inj.mp e]
theorem asc_eq {xs ys : List Str} (p : xs.Perm ys) (hx : PyProof.Rows.sortedS xs = true) (hy : ys.Pairwise sle) : xs = ys :=
  p.eq_of_pairwise (fun _ _ _ _ a b => sle_anti a b) (sle_sorted hx) hy
/-- the rows in the order of these keys -/
def rowsAt (rows : Rows) (ys : List Str) : Rows := ys.map fun y => (y, match valV (kvR rows) (.inr y) with | some (.str h) => h | _ => y)
theorem ksR_at (rows : Rows) (ys : List Str) : ksR (rowsAt rows ys) = ys := by unfold ksR rowsAt; rw [List.map_map]; exact List.map_id _
theorem asc_rows {rows rs : Rows} (nd : (ksR rows).Nodup) (a : Asc rows rs) : rs = rowsAt rows (ksR rs) := by
  have key : ∀ l : Rows, (∀ k h, (k, h) ∈ l → (k, h) ∈ rows) → l = rowsAt rows (ksR l) := fun l => by
    induction l with
    | nil => intro _; rfl
    | cons r l ih =>
      intro hm
      have e := ih fun k h m => hm k h (List.mem_cons_of_mem _ m)
      have m : (r.1, r.2) ∈ rows := hm _ _ (List.mem_cons_self ..)
      show r :: l = (r.1, match valV (kvR rows) (.inr r.1) with | some (.str h) => h | _ => r.1) :: rowsAt rows (ksR l)
      rw [valR nd m, ← e]
  exact key rs a.mem
end
end K5
set_option Elab.async false
set_option linter.all false
set_option maxRecDepth 100000
set_option maxHeartbeats 4000000
namespace K5
open PySem L2
local macro_rules | `(tactic| walk_at "rd1") => `(tactic| first
  | refine ⟨_, _, rfl, rfl, ?_⟩
  | refine ⟨_, _, _, _, rfl, rfl, SqL.of (by assumption), rfl, ?_⟩
  | refine ⟨_, _, _, _, rfl, rfl, (by assumption), rfl, ?_⟩
  | refine .inl ⟨_, rfl, ?_⟩
  | refine ⟨_, rfl, ?_⟩
  | refine ⟨(by unfold CMul; omega), ?_⟩
  | refine ⟨(by unfold CPow; omega), ?_⟩
  | refine ⟨(by (try dsimp only); omega), ?_⟩
  | refine ⟨(by unfold CDiv; omega), ?_⟩
  | fail "rd1")
local macro_rules | `(tactic| walk_at "rd") => `(tactic| repeat' (walk_at "rd1"))
section
variable {P : Program} {w : World} {K : PySem.W.Frag} {mg : Str → Option Value} {base : Heap} {A : Ad}

def isI : PyData → Bool | .int _ => true | _ => false
def isL : PyData → Bool | .list _ => true | .tuple _ => true | _ => false
def spIsInt (K : PySem.W.Frag) : Sp := fun vs H Q _ => ∃ (x : V) (d : PyData), vs = [x] ∧ Dp K H x d ∧ Q (.bl (isI d)) H
def spIsList (K : PySem.W.Frag) : Sp := fun vs H Q _ => ∃ (x : V) (d : PyData), vs = [x] ∧ Dp K H x d ∧ ∀ H', Same H H' → Q (.bl (isL d)) H'
theorem ok_isint (T : Txt K mg A) : FnOk P w K mg base CX0 1 A.a_is_integer A.d_is_integer P_is_integer (spIsInt K) := by
  refine T.f_is_integer.ok sc_is_integer (fun vs H Q E h => ?_) (fun cdv A' outer s H vs Q E hr h => ?_)
  · obtain ⟨x, d, rfl, _⟩ := h
    rfl
  · obtain ⟨x, d, rfl, hx, k⟩ := h
    refine ⟨_, (pss_one (ps_ret (pe_and (pe_callB call_isi (by rfl) T.isinstance (by decide +kernel) (pa_cons (pv 0) (pa_cons (pe_bltn (v := .ty "int") (u := .type "int") (by rfl) T.int (by decide +kernel) rfl) pa_nil))) (pe_one (pe_not (pe_callB call_isi (by rfl) T.isinstance (by decide +kernel) (pa_cons (pv 0) (pa_cons (pe_bltn (v := .ty "bool") (u := .type "bool") (by rfl) T.bool (by decide +kernel) rfl) pa_nil)))))))), ?_⟩
    cases hx with
    | non => exact ⟨_, rfl, _, _, .type "NoneType", _, false, rfl, .ty _, .base .non, kit_ty (by decide +kernel), _, rfl, iteF k⟩
    | str z => exact ⟨_, rfl, _, _, .type "str", _, false, rfl, .ty _, .base (.str _), kit_ty (by decide +kernel), _, rfl, iteF k⟩
    | int i => exact ⟨_, rfl, _, _, .type "int", _, true, rfl, .ty _, .base (.int _), kit_ty (by decide +kernel), _, rfl, iteT ⟨_, rfl, _, _, .type "int", _, false, rfl, .ty _, .base (.int _), kit_ty (by decide +kernel), _, rfl, k⟩⟩
    | bl b => exact ⟨_, rfl, _, _, .type "bool", _, true, rfl, .ty _, .base (.bl _), kit_ty (by decide +kernel), _, rfl, iteT ⟨_, rfl, _, _, .type "bool", _, true, rfl, .ty _, .base (.bl _), kit_ty (by decide +kernel), _, rfl, k⟩⟩
    | lst h _ => exact ⟨_, rfl, _, _, .type "list", _, false, rfl, .ty _, tyL h, kit_ty (by decide +kernel), _, rfl, iteF k⟩
    | tup h _ => exact ⟨_, rfl, _, _, .type "tuple", _, false, rfl, .ty _, tyT h, kit_ty (by decide +kernel), _, rfl, iteF k⟩
theorem ok_islist (T : Txt K mg A) : FnOk P w K mg base CX0 1 A.a_is_list A.d_is_list P_is_list (spIsList K) := by
  refine T.f_is_list.ok sc_is_list (fun vs H Q E h => ?_) (fun cdv A' outer s H vs Q E hr h => ?_)
  · obtain ⟨x, d, rfl, _⟩ := h
    rfl
  · obtain ⟨x, d, rfl, hx, k⟩ := h
    refine ⟨_, (pss_one (ps_ret (pe_callB call_isiT (by rfl) T.isinstance (by decide +kernel) (pa_cons (pv 0) (pa_cons (pe_tup (pa_cons (pe_bltn (v := .ty "list") (u := .type "list") (by rfl) T.list (by decide +kernel) rfl) (pa_cons (pe_bltn (v := .ty "tuple") (u := .type "tuple") (by rfl) T.tuple (by decide +kernel) rfl) pa_nil))) pa_nil))))), ?_⟩
    refine ⟨_, rfl, by show 2 ≤ sizeLine; decide, fun p hp => ?_⟩
    have s1 : Same H (upd H p (.tup [.ty "list", .ty "tuple"])) := Same.new hp
    have k := k _ s1
    cases dpSame s1 hx with
    | non => exact ⟨_, p, _, _, _, false, rfl, upd_same, .cons (.ty _) (.cons (.ty _) .nil), .base .non, kit2 (a := "NoneType") (b := "list") (c := "tuple") (r := false) (s := false) (by decide +kernel) (by decide +kernel), k⟩
    | str z => exact ⟨_, p, _, _, _, false, rfl, upd_same, .cons (.ty _) (.cons (.ty _) .nil), .base (.str _), kit2 (a := "str") (b := "list") (c := "tuple") (r := false) (s := false) (by decide +kernel) (by decide +kernel), k⟩
    | int z => exact ⟨_, p, _, _, _, false, rfl, upd_same, .cons (.ty _) (.cons (.ty _) .nil), .base (.int _), kit2 (a := "int") (b := "list") (c := "tuple") (r := false) (s := false) (by decide +kernel) (by decide +kernel), k⟩
    | bl z => exact ⟨_, p, _, _, _, false, rfl, upd_same, .cons (.ty _) (.cons (.ty _) .nil), .base (.bl _), kit2 (a := "bool") (b := "list") (c := "tuple") (r := false) (s := false) (by decide +kernel) (by decide +kernel), k⟩
    | lst h _ => exact ⟨_, p, _, _, _, true, rfl, upd_same, .cons (.ty _) (.cons (.ty _) .nil), tyL h, kit2 (a := "list") (b := "list") (c := "tuple") (r := true) (s := false) (by decide +kernel) (by decide +kernel), k⟩
    | tup h _ => exact ⟨_, p, _, _, _, true, rfl, upd_same, .cons (.ty _) (.cons (.ty _) .nil), tyT h, kit2 (a := "tuple") (b := "list") (c := "tuple") (r := false) (s := true) (by decide +kernel) (by decide +kernel), k⟩
/-- bounds (least, most) in a tuple -/
def spBounds (K : PySem.W.Frag) : Sp := fun vs H Q _ => ∃ (a : Addr) (l m : Int), vs = [.ref a] ∧ SqT K H a [.int l, .int m] ∧ 1 ≤ l ∧ l ≤ m ∧ ∀ H', Same H H' → Q (.bl true) H'
theorem ok_bounds (T : Txt K mg A) : FnOk P w K mg base CX0 2 A.a_is_bounds A.d_is_bounds P_is_bounds (spBounds K) := by
  have G_is_list : FnOk P w K mg base CX0 1 A.a_is_list A.d_is_list P_is_list (spIsList K) := ok_islist T
  have G_is_integer : FnOk P w K mg base CX0 1 A.a_is_integer A.d_is_integer P_is_integer (spIsInt K) := ok_isint T
  refine T.f_is_bounds.ok sc_is_bounds (fun vs H Q E h => ?_) (fun cdv A' outer s H vs Q E hr h => ?_)
  · obtain ⟨a, l, m, rfl, _⟩ := h
    rfl
  · obtain ⟨a, l, m, rfl, ha, h1, h2, k⟩ := h
    refine ⟨_, (pss_cons (ps_if (PW.pt (pw_or (pt_not (pt_val (pe_call G_is_list (hr.mono (by omega)) (by rfl) T.g_is_list T.f_is_list.kp T.b_is_list .nil pass0 (pa_cons (pv 0) pa_nil)))) (pw_or1 (pt_cmpR op_ne (pe_callB call_len_seq (by rfl) T.len PySem.boot_len (pa_cons (pv 0) pa_nil)) pe_int (nomark _)))))
 (pss_one (ps_ret pe_bl))
 pss_nil)
 (pss_cons (ps_asg (pv 0) (pg_tup (by rfl) (pgs_cons (pg_name (i := 1) sc_is_bounds.nd rfl (Or.inl rfl)) (pgs_cons (pg_name (i := 2) sc_is_bounds.nd rfl (Or.inl rfl)) pgs_nil))))
 (pss_one (ps_ret (pe_and (pe_call G_is_integer (hr.mono (by omega)) (by rfl) T.g_is_integer T.f_is_integer.kp T.b_is_integer .nil pass0 (pa_cons (pv 1) pa_nil)) (pe_and (pe_call G_is_integer (hr.mono (by omega)) (by rfl) T.g_is_integer T.f_is_integer.kp T.b_is_integer .nil pass0 (pa_cons (pv 2) pa_nil)) (pe_one (pe_chain op_le op_le pe_int (pv 1) (pv 2))))))))), ?_⟩
    refine ⟨_, rfl, .ref a, .tuple [.int l, .int m], rfl, .tup ha (.cons (.int l) (.cons (.int m) .nil)), fun H1 s1 => ⟨_, rfl, iteF ?_⟩⟩
    have ha1 := stUp ha s1
    refine ⟨_, rfl, a, _, rfl, .inr ha1, rfl, _, rfl, iteF ?_⟩
    refine ⟨_, rfl, a, _, rfl, ha1, rfl, _, _, rfl, _, _, rfl, rfl, ?_⟩
    refine ⟨_, rfl, .int l, .int l, rfl, .int l, _, rfl, iteT ?_⟩
    refine ⟨_, rfl, .int m, .int m, rfl, .int m, _, rfl, iteT ?_⟩
    refine ⟨_, rfl, _, _, rfl, rfl, _, rfl, ite2 (fun _ => ?_) (fun q => (q (decide_eq_true h1)).elim)⟩
    refine ⟨_, rfl, _, _, rfl, rfl, ?_⟩
    show Q (.bl (decide (l ≤ m))) H1
    rw [decide_eq_true h2]
    exact k _ s1
end
end K5
set_option Elab.async false
set_option linter.all false
set_option maxRecDepth 100000
set_option maxHeartbeats 4000000
namespace K5
open PySem L2
local macro_rules | `(tactic| walk_at "rd1") => `(tactic| first
  | refine ⟨_, _, rfl, rfl, ?_⟩
  | refine ⟨_, _, _, _, rfl, rfl, SqL.of (by assumption), rfl, ?_⟩
  | refine ⟨_, _, _, _, rfl, rfl, (by assumption), rfl, ?_⟩
  | refine .inl ⟨_, rfl, ?_⟩
  | refine ⟨_, rfl, ?_⟩
  | refine ⟨(by unfold CMul; omega), ?_⟩
  | refine ⟨(by unfold CPow; omega), ?_⟩
  | refine ⟨(by (try dsimp only); omega), ?_⟩
  | refine ⟨(by unfold CDiv; omega), ?_⟩
  | fail "rd1")
local macro_rules | `(tactic| walk_at "rd") => `(tactic| repeat' (walk_at "rd1"))
section
variable {P : Program} {w : World} {K : PySem.W.Frag} {mg : Str → Option Value} {base : Heap} {A : Ad}

inductive Mom (kvs : List (Key × V)) : PyData → Prop
  | clock : Mom kvs (.str "clock")
  | edge {e n : Str} (he : e = "start" ∨ e = "done") (hn : (valV kvs (.inr n)).isSome = true) (ok : PyData.strOk n = true) : Mom kvs (.tuple [.str e, .str n])
inductive Wsh (kvs : List (Key × V)) : PyData → Prop
  | mk {a b : PyData} {m : Int} (ha : Mom kvs a) (hb : Mom kvs b) : Wsh kvs (.tuple [a, b, .int m])
def spMoment (K : PySem.W.Frag) : Sp := fun vs H Q _ => ∃ (x : V) (dd : Addr) (d : PyData) (kvs : List (Key × V)), vs = [x, .ref dd] ∧ Dp K H x d ∧ Mom kvs d ∧ Rd H dd (.dK kvs) ∧ ∀ H', Same H H' → Q (.bl true) H'
def spWish (K : PySem.W.Frag) : Sp := fun vs H Q _ => ∃ (x : V) (dd : Addr) (d : PyData) (kvs : List (Key × V)), vs = [x, .ref dd] ∧ Dp K H x d ∧ Wsh kvs d ∧ Rd H dd (.dK kvs) ∧ ∀ H', Same H H' → Q (.bl true) H'
def spAsM (K : PySem.W.Frag) : Sp := fun vs H Q _ => ∃ (x : V) (d : PyData) (kvs : List (Key × V)), vs = [x] ∧ Dp K H x d ∧ Mom kvs d ∧ Q x H
def spAsW (K : PySem.W.Frag) : Sp := fun vs H Q _ => ∃ (x : V) (d : PyData) (kvs : List (Key × V)), vs = [x] ∧ Dp K H x d ∧ Wsh kvs d ∧ ∀ p H', H p = none → Same H H' → Dp K H' (.ref p) d → Q (.ref p) H'
theorem ok_moment (T : Txt K mg A) : FnOk P w K mg base CX0 2 A.a_is_moment A.d_is_moment P_is_moment (spMoment K) := by
  have G_is_list : FnOk P w K mg base CX0 1 A.a_is_list A.d_is_list P_is_list (spIsList K) := ok_islist T
  have G_is_dish : FnOk P w K mg base CX0 1 A.a_is_dish A.d_is_dish P_is_dish (spIsDish K) := ok_isdish T
  refine T.f_is_moment.ok sc_is_moment (fun vs H Q E h => ?_) (fun cdv A' outer s H vs Q E hr h => ?_)
  · obtain ⟨x, dd, d, kvs, rfl, _⟩ := h
    rfl
  · obtain ⟨x, dd, d, kvs, rfl, hx, hm, hd, k⟩ := h
    refine ⟨_, (pss_cons (ps_if (pt_not (pt_val (pe_call G_is_list (hr.mono (by omega)) (by rfl) T.g_is_list T.f_is_list.kp T.b_is_list .nil pass0 (pa_cons (pv 0) pa_nil))))
 (pss_one (ps_ret (pe_cmpR (op_eqD hr.units) (pv 0) (pe_glob (v := .str "clock") (by rfl) T.g_CLOCK.choose_spec ⟨_, rfl⟩) (nomark _))))
 pss_nil)
 (pss_one (ps_ret (pe_and (pe_cmpR op_eq (pe_callB call_len_seq (by rfl) T.len PySem.boot_len (pa_cons (pv 0) pa_nil)) pe_int (nomark _)) (pe_and (pe_cmpR op_in_seq (pe_ix ix_tup (pv 0) pe_int (fun _ _ => rfl)) (pe_glob (v := .ref A.a_EDGES) (by rfl) T.g_EDGES rfl) (by rfl)) (pe_one (pe_call G_is_dish (hr.mono (by omega)) (by rfl) T.g_is_dish T.f_is_dish.kp T.b_is_dish .nil pass0 (pa_cons (pe_ix ix_tup (pv 0) pe_int (fun _ _ => rfl)) (pa_cons (pv 1) pa_nil))))))))), ?_⟩
    cases hm with
    | clock =>
      cases hx
      refine ⟨_, rfl, _, _, rfl, .str _, fun H1 s1 => ⟨_, rfl, iteT ?_⟩⟩
      exact ⟨_, rfl, _, _, .str _, .str _, by decide +kernel, by decide +kernel, k _ s1⟩
    | @edge e n he hn ok =>
      cases hx with
      | tup hq hA =>
        cases hA with
        | cons h1 hA =>
          cases h1
          cases hA with
          | cons h2 hA =>
            cases h2
            cases hA
            refine ⟨_, rfl, _, _, rfl, .tup hq (.cons (.str e) (.cons (.str n) .nil)), fun H1 s1 => ⟨_, rfl, iteF ?_⟩⟩
            have hq1 := stUp hq s1
            refine ⟨_, rfl, _, _, rfl, .inr hq1, rfl, _, rfl, iteT ?_⟩
            have hE : SqT K H1 A.a_EDGES [.str "start", .str "done"] := stUp T.t_EDGES (fun _ _ z => nomatch z)
            refine ⟨_, rfl, _, _, _, _, rfl, rfl, hq1, rfl, _, _, rfl, .inr hE, rfl, rfl, _, rfl, ite2 (fun _ => ?_) (fun z => (z ?_).elim)⟩
            · refine ⟨_, rfl, _, _, _, _, rfl, rfl, hq1, rfl, _, rfl, .str n, dd, kvs, rfl, rdUp hd s1, .inl ⟨n, rfl, ?_⟩⟩
              rw [hn]
              exact k _ s1
            · rcases he with q | q <;> (subst q; decide +kernel)
theorem ok_wish (T : Txt K mg A) : FnOk P w K mg base CX0 3 A.a_is_wish A.d_is_wish P_is_wish (spWish K) := by
  have G_is_list : FnOk P w K mg base CX0 1 A.a_is_list A.d_is_list P_is_list (spIsList K) := ok_islist T
  have G_is_integer : FnOk P w K mg base CX0 1 A.a_is_integer A.d_is_integer P_is_integer (spIsInt K) := ok_isint T
  have G_is_moment : FnOk P w K mg base CX0 2 A.a_is_moment A.d_is_moment P_is_moment (spMoment K) := ok_moment T
  refine T.f_is_wish.ok sc_is_wish (fun vs H Q E h => ?_) (fun cdv A' outer s H vs Q E hr h => ?_)
  · obtain ⟨x, dd, d, kvs, rfl, _⟩ := h
    rfl
  · obtain ⟨x, dd, d, kvs, rfl, hx, hm, hd, k⟩ := h
    refine ⟨_, (pss_cons (ps_if (PW.pt (pw_or (pt_not (pt_val (pe_call G_is_list (hr.mono (by omega)) (by rfl) T.g_is_list T.f_is_list.kp T.b_is_list .nil pass0 (pa_cons (pv 0) pa_nil)))) (pw_or1 (pt_cmpR op_ne (pe_callB call_len_seq (by rfl) T.len PySem.boot_len (pa_cons (pv 0) pa_nil)) pe_int (nomark _)))))
 (pss_one (ps_ret pe_bl))
 pss_nil)
 (pss_cons (ps_asg (pv 0) (pg_tup (by rfl) (pgs_cons (pg_name (i := 2) sc_is_wish.nd rfl (Or.inl rfl)) (pgs_cons (pg_name (i := 3) sc_is_wish.nd rfl (Or.inl rfl)) (pgs_cons (pg_name (i := 4) sc_is_wish.nd rfl (Or.inl rfl)) pgs_nil)))))
 (pss_one (ps_ret (pe_and (pe_call G_is_moment (hr.mono (by omega)) (by rfl) T.g_is_moment T.f_is_moment.kp T.b_is_moment .nil pass0 (pa_cons (pv 2) (pa_cons (pv 1) pa_nil))) (pe_and (pe_call G_is_moment (hr.mono (by omega)) (by rfl) T.g_is_moment T.f_is_moment.kp T.b_is_moment .nil pass0 (pa_cons (pv 3) (pa_cons (pv 1) pa_nil))) (pe_one (pe_call G_is_integer (hr.mono (by omega)) (by rfl) T.g_is_integer T.f_is_integer.kp T.b_is_integer .nil pass0 (pa_cons (pv 4) pa_nil))))))))), ?_⟩
    cases hm with
    | @mk a b m ha hb =>
      cases id hx with
      | tup hq hA =>
        cases hA with
        | @cons v1 _ _ _ h1 hA =>
          cases hA with
          | @cons v2 _ _ _ h2 hA =>
            cases hA with
            | cons h3 hA =>
              cases h3
              cases hA
              refine ⟨_, rfl, _, _, rfl, hx, fun H1 s1 => ⟨_, rfl, iteF ?_⟩⟩
              have hq1 := stUp hq s1
              refine ⟨_, rfl, _, _, rfl, .inr hq1, rfl, _, rfl, iteF ?_⟩
              refine ⟨_, rfl, _, _, rfl, hq1, rfl, _, _, rfl, _, _, rfl, _, _, rfl, rfl, ?_⟩
              refine ⟨_, rfl, _, rfl, v1, dd, a, kvs, rfl, dpSame s1 h1, ha, rdUp hd s1, fun H2 s2 => ⟨_, rfl, iteT ?_⟩⟩
              refine ⟨_, rfl, _, rfl, v2, dd, b, kvs, rfl, dpSame (s1.trans s2) h2, hb, rdUp hd (s1.trans s2), fun H3 s3 => ⟨_, rfl, iteT ?_⟩⟩
              exact ⟨_, rfl, .int m, .int m, rfl, .int m, k _ ((s1.trans s2).trans s3)⟩
theorem ok_asm (T : Txt K mg A) : FnOk P w K mg base CX0 1 A.a_as_moment A.d_as_moment P_as_moment (spAsM K) := by
  refine T.f_as_moment.ok sc_as_moment (fun vs H Q E h => ?_) (fun cdv A' outer s H vs Q E hr h => ?_)
  · obtain ⟨x, d, kvs, rfl, _⟩ := h
    rfl
  · obtain ⟨x, d, kvs, rfl, hx, hm, k⟩ := h
    refine ⟨_, (pss_one (ps_ret (pe_ifExp (pt_cmpR (op_eqD hr.units) (pv 0) (pe_glob (v := .str "clock") (by rfl) T.g_CLOCK.choose_spec ⟨_, rfl⟩) (nomark _)) (pe_glob (v := .str "clock") (by rfl) T.g_CLOCK.choose_spec ⟨_, rfl⟩) (pe_callTy call_tuple_of (by rfl) T.tuple (by decide +kernel) (pa_cons (pv 0) pa_nil))))), ?_⟩
    cases hm with
    | clock =>
      cases hx
      exact ⟨_, rfl, _, _, .str _, .str _, by decide +kernel, by decide +kernel, _, rfl, iteT k⟩
    | @edge e n he hn ok =>
      have hsh : SeqAt.shaped (.tuple [.str e, .str n]) = true := by
        have he' : PyData.strOk e = true := by rcases he with q | q <;> (subst q; decide +kernel)
        simp [SeqAt.shaped, PyData.canLay0, PyData.canLayAll0, PyData.depth, PyData.depthAll, he', ok]
      cases id hx with
      | tup hq hA =>
        exact ⟨_, rfl, _, _, hx, .str _, hsh, by decide +kernel, _, rfl, iteF ⟨_, rfl, _, _, rfl, .inr ⟨hq, k⟩⟩⟩
theorem ok_asw (T : Txt K mg A) : FnOk P w K mg base CX0 2 A.a_as_wish A.d_as_wish P_as_wish (spAsW K) := by
  have G_as_moment : FnOk P w K mg base CX0 1 A.a_as_moment A.d_as_moment P_as_moment (spAsM K) := ok_asm T
  refine T.f_as_wish.ok sc_as_wish (fun vs H Q E h => ?_) (fun cdv A' outer s H vs Q E hr h => ?_)
  · obtain ⟨x, d, kvs, rfl, _⟩ := h
    rfl
  · obtain ⟨x, d, kvs, rfl, hx, hm, k⟩ := h
    refine ⟨_, (pss_cons (ps_asg (pv 0) (pg_tup (by rfl) (pgs_cons (pg_name (i := 1) sc_as_wish.nd rfl (Or.inl rfl)) (pgs_cons (pg_name (i := 2) sc_as_wish.nd rfl (Or.inl rfl)) (pgs_cons (pg_name (i := 3) sc_as_wish.nd rfl (Or.inl rfl)) pgs_nil)))))
 (pss_one (ps_ret (pe_tup (pa_cons (pe_call G_as_moment (hr.mono (by omega)) (by rfl) T.g_as_moment T.f_as_moment.kp T.b_as_moment .nil pass0 (pa_cons (pv 1) pa_nil)) (pa_cons (pe_call G_as_moment (hr.mono (by omega)) (by rfl) T.g_as_moment T.f_as_moment.kp T.b_as_moment .nil pass0 (pa_cons (pv 2) pa_nil)) (pa_cons (pv 3) pa_nil))))))), ?_⟩
    cases hm with
    | @mk a b m ha hb =>
      cases id hx with
      | tup hq hA =>
        cases hA with
        | @cons v1 _ _ _ h1 hA =>
          cases hA with
          | @cons v2 _ _ _ h2 hA =>
            cases hA with
            | cons h3 hA =>
              cases h3
              cases hA
              refine ⟨_, rfl, _, _, rfl, hq, rfl, _, _, rfl, _, _, rfl, _, _, rfl, rfl, ?_⟩
              refine ⟨_, rfl, v1, a, kvs, rfl, h1, ha, _, rfl, v2, b, kvs, rfl, h2, hb, _, rfl, by show 3 ≤ sizeLine; decide, fun p hp => ?_⟩
              have s1 : Same H (upd H p (.tup [v1, v2, .int m])) := Same.new hp
              exact k p _ hp s1 (.tup (SqT.of upd_same) (.cons (dpSame s1 h1) (.cons (dpSame s1 h2) (.cons (.int m) .nil))))
end
end K5
set_option Elab.async false
set_option linter.all false
set_option maxRecDepth 100000
set_option maxHeartbeats 4000000
namespace K5
open PySem L2
local macro_rules | `(tactic| walk_at "rd1") => `(tactic| first
  | refine ⟨_, _, rfl, rfl, ?_⟩
  | refine ⟨_, _, _, _, rfl, rfl, SqL.of (by assumption), rfl, ?_⟩
  | refine ⟨_, _, _, _, rfl, rfl, (by assumption), rfl, ?_⟩
  | refine .inl ⟨_, rfl, ?_⟩
  | refine ⟨_, rfl, ?_⟩
  | refine ⟨(by unfold CMul; omega), ?_⟩
  | refine ⟨(by unfold CPow; omega), ?_⟩
  | refine ⟨(by (try dsimp only); omega), ?_⟩
  | refine ⟨(by unfold CDiv; omega), ?_⟩
  | fail "rd1")
local macro_rules | `(tactic| walk_at "rd") => `(tactic| repeat' (walk_at "rd1"))
section
variable {P : Program} {w : World} {K : PySem.W.Frag} {mg : Str → Option Value} {base : Heap} {A : Ad}

/-! ### dicts told by functions of the names -/
def kvF (ns : List Str) (f : Str → V) : List (Key × V) := ns.map fun n => (.inr n, f n)
theorem kvF_keys (ns : List Str) (f : Str → V) : (kvF ns f).map (·.1) = ns.map Sum.inr := by simp [kvF]
theorem kvF_len (ns : List Str) (f : Str → V) : (kvF ns f).length = ns.length := by simp [kvF]
theorem inr_nd {ns : List Str} (h : ns.Nodup) : (ns.map (Sum.inr : Str → Key)).Nodup := List.pairwise_map.mpr (h.imp fun n e => n (Sum.inr.inj e))
theorem kvF_snoc (ns : List Str) (n : Str) (f : Str → V) : kvF (ns ++ [n]) f = kvF ns f ++ [(.inr n, f n)] := by simp [kvF]
theorem kvF_at {ns : List Str} {f : Str → V} {i : Nat} {k : Key} {v : V} (h : (kvF ns f)[i]? = some (k, v)) : ∃ hi : i < ns.length, k = .inr ns[i] ∧ v = f ns[i] := by
  have hi : i < ns.length := by
    have := (List.getElem?_eq_some_iff.mp h).1
    rwa [kvF_len] at this
  unfold kvF at h
  rw [List.getElem?_map, List.getElem?_eq_getElem hi] at h
  cases h
  exact ⟨hi, rfl, rfl⟩
theorem kvF_val {ns : List Str} {f : Str → V} {n : Str} (nd : ns.Nodup) (m : n ∈ ns) : valV (kvF ns f) (.inr n) = some (f n) := by
  obtain ⟨i, hi, e⟩ := List.getElem_of_mem m
  refine valV_at (i := i) (by rw [kvF_keys]; exact inr_nd nd) ?_
  unfold kvF
  rw [List.getElem?_map, List.getElem?_eq_getElem hi, e]; rfl
def rowsF (ns : List Str) (hk : Str → Str) : Rows := ns.map fun n => (n, hk n)
theorem kvR_F (ns : List Str) (hk : Str → Str) : kvR (rowsF ns hk) = kvF ns fun n => .str (hk n) := by simp [kvR, rowsF, kvF]
theorem ksR_F (ns : List Str) (hk : Str → Str) : ksR (rowsF ns hk) = ns := by unfold ksR rowsF; rw [List.map_map]; exact List.map_id _
theorem rows_fn {rows : Rows} (nd : (ksR rows).Nodup) : ∃ hk : Str → Str, rows = rowsF (ksR rows) hk := by
  refine ⟨fun y => match valV (kvR rows) (.inr y) with | some (.str h) => h | _ => y, ?_⟩
  have key : ∀ l : Rows, (∀ r ∈ l, r ∈ rows) → l = rowsF (ksR l) fun y => match valV (kvR rows) (.inr y) with | some (.str h) => h | _ => y := fun l => by
    induction l with
    | nil => intro _; rfl
    | cons r l ih =>
      intro hm
      have e := ih fun r h => hm r (List.mem_cons_of_mem _ h)
      have m : (r.1, r.2) ∈ rows := hm _ (List.mem_cons_self ..)
      show r :: l = (r.1, match valV (kvR rows) (.inr r.1) with | some (.str h) => h | _ => r.1) :: rowsF (ksR l) _
      rw [valR nd m, ← e]
  exact key rows fun _ h => h
theorem mem_F {ns : List Str} {hk : Str → Str} {n : Str} (m : n ∈ ns) : (n, hk n) ∈ rowsF ns hk := List.mem_map.mpr ⟨n, m, rfl⟩
theorem of_mem_F {ns : List Str} {hk : Str → Str} {n h : Str} (m : (n, h) ∈ rowsF ns hk) : n ∈ ns ∧ h = hk n := by
  obtain ⟨k, hk2, e⟩ := List.mem_map.mp m
  cases e
  exact ⟨hk2, rfl⟩
/-- a dict of names with pairs: their values stand in tuples -/
structure Pr2 (K : PySem.W.Frag) (H : Hp) (ns : List Str) (f g : Str → V) (kvs : List (Key × V)) : Prop where
  keys : kvs.map (·.1) = ns.map Sum.inr
  at_ : ∀ (i : Nat) (n : Str), ns[i]? = some n → ∃ a : Addr, kvs[i]? = some (.inr n, .ref a) ∧ SqT K H a [f n, g n]
theorem Pr2.up {H H' : Hp} {ns : List Str} {f g : Str → V} {kvs : List (Key × V)} (h : Pr2 K H ns f g kvs) (s : Same H H') : Pr2 K H' ns f g kvs :=
  ⟨h.keys, fun i n e => by obtain ⟨a, e1, e2⟩ := h.at_ i n e; exact ⟨a, e1, stUp e2 s⟩⟩
theorem Pr2.er {H : Hp} {p : Addr} {u : HO} {ns : List Str} {f g : Str → V} {kvs : List (Key × V)} (h : Pr2 K H ns f g kvs) (hp : H p = some u) (hu : NoTup u) : Pr2 K (er H p) ns f g kvs :=
  ⟨h.keys, fun i n e => by obtain ⟨a, e1, e2⟩ := h.at_ i n e; exact ⟨a, e1, tupEr hp hu e2⟩⟩
theorem Pr2.set {H : Hp} {p : Addr} {u o : HO} {ns : List Str} {f g : Str → V} {kvs : List (Key × V)} (h : Pr2 K H ns f g kvs) (hp : H p = some u) (hu : NoTup u) : Pr2 K (upd H p o) ns f g kvs :=
  ⟨h.keys, fun i n e => by obtain ⟨a, e1, e2⟩ := h.at_ i n e; exact ⟨a, e1, tupSet hp hu e2⟩⟩
theorem Pr2.len {H : Hp} {ns : List Str} {f g : Str → V} {kvs : List (Key × V)} (h : Pr2 K H ns f g kvs) : kvs.length = ns.length := by
  have := congrArg List.length h.keys
  rwa [List.length_map, List.length_map] at this
theorem Pr2.nil {H : Hp} {f g : Str → V} : Pr2 K H [] f g [] := ⟨rfl, fun i n e => by simp at e⟩
theorem Pr2.snoc {H : Hp} {ns : List Str} {f g : Str → V} {kvs : List (Key × V)} {n : Str} {a : Addr} (h : Pr2 K H ns f g kvs) (ha : SqT K H a [f n, g n]) : Pr2 K H (ns ++ [n]) f g (kvs ++ [(.inr n, .ref a)]) := by
  refine ⟨by rw [List.map_append, List.map_append, h.keys]; rfl, fun i m e => ?_⟩
  rcases Nat.lt_or_ge i ns.length with lt | ge
  · rw [List.getElem?_append_left lt] at e
    rw [List.getElem?_append_left (by rw [h.len]; exact lt)]
    exact h.at_ i m e
  · rw [List.getElem?_append_right ge] at e
    rw [List.getElem?_append_right (by rw [h.len]; exact ge), h.len]
    cases e0 : i - ns.length with
    | zero => rw [e0] at e; cases e; exact ⟨a, rfl, ha⟩
    | succ j => rw [e0] at e; simp at e
theorem Pr2.get {H : Hp} {ns : List Str} {f g : Str → V} {kvs : List (Key × V)} (h : Pr2 K H ns f g kvs) {i : Nat} {k : Key} {v : V} (e : kvs[i]? = some (k, v)) : ∃ (hi : i < ns.length) (a : Addr), k = .inr ns[i] ∧ v = .ref a ∧ SqT K H a [f ns[i], g ns[i]] := by
  have hi : i < ns.length := by rw [← h.len]; exact (List.getElem?_eq_some_iff.mp e).1
  obtain ⟨a, e1, e2⟩ := h.at_ i ns[i] (List.getElem?_eq_getElem hi)
  rw [e] at e1
  cases e1
  exact ⟨hi, a, rfl, rfl, e2⟩
theorem Pr2.val {H : Hp} {ns : List Str} {f g : Str → V} {kvs : List (Key × V)} (h : Pr2 K H ns f g kvs) (nd : ns.Nodup) {n : Str} (m : n ∈ ns) : ∃ a : Addr, valV kvs (.inr n) = some (.ref a) ∧ SqT K H a [f n, g n] := by
  obtain ⟨i, hi, e⟩ := List.getElem_of_mem m
  obtain ⟨a, e1, e2⟩ := h.at_ i n (by rw [List.getElem?_eq_getElem hi, e])
  exact ⟨a, valV_at (by rw [h.keys]; exact inr_nd nd) e1, e2⟩
theorem Pr2.congr {H : Hp} {ns : List Str} {f g f' g' : Str → V} {kvs : List (Key × V)} (h : Pr2 K H ns f g kvs) (e : ∀ n ∈ ns, f n = f' n ∧ g n = g' n) : Pr2 K H ns f' g' kvs :=
  ⟨h.keys, fun i n q => by
    obtain ⟨a, e1, e2⟩ := h.at_ i n q
    obtain ⟨x, y⟩ := e n (List.mem_of_getElem? q)
    exact ⟨a, e1, by rw [← x, ← y]; exact e2⟩⟩
theorem dish_fn {E : Hp} {p : Addr} {ks : List Str} {kvs : List (Key × V)} (h : DishD K E p ks kvs) (nd : ks.Nodup) :
    ∃ lo hi : Str → Int, Pr2 K E ks (fun n => .int (lo n)) (fun n => .int (hi n)) kvs ∧ ∀ n ∈ ks, 1 ≤ lo n ∧ lo n ≤ hi n := by
  have hl : kvs.length = ks.length := by have := congrArg List.length h.keys; rwa [List.length_map, List.length_map] at this
  have ex : ∀ n : Str, ∃ q : Int × Int, ∀ i : Nat, ks[i]? = some n → (∃ a : Addr, kvs[i]? = some (.inr n, .ref a) ∧ SqT K E a [.int q.1, .int q.2]) ∧ 1 ≤ q.1 ∧ q.1 ≤ q.2 := fun n => by
    by_cases m : n ∈ ks
    · obtain ⟨j, hj, ej⟩ := List.getElem_of_mem m
      have hj2 : j < kvs.length := by omega
      have ek : (kvs.map (·.1))[j]? = some (.inr n) := by rw [h.keys, List.getElem?_map, List.getElem?_eq_getElem hj, ej]; rfl
      obtain ⟨⟨k, v⟩, e1, e2⟩ : ∃ kv, kvs[j]? = some kv ∧ kv.1 = .inr n := by
        rw [List.getElem?_map, List.getElem?_eq_getElem hj2] at ek
        exact ⟨_, List.getElem?_eq_getElem hj2, Option.some.inj ek⟩
      subst e2
      obtain ⟨b, l, u, e3, e4, e5, e6, _⟩ := h.vals j _ _ e1
      subst e3
      refine ⟨(l, u), fun i hi => ?_⟩
      have : i = j := by
        obtain ⟨hi1, hi2⟩ := List.getElem?_eq_some_iff.mp hi
        exact (List.getElem_inj nd).mp (hi2.trans ej.symm)
      subst this
      exact ⟨⟨b, e1, e4⟩, e5, e6⟩
    · exact ⟨(0, 0), fun i hi => absurd (List.mem_of_getElem? hi) m⟩
  refine ⟨fun n => (ex n).choose.1, fun n => (ex n).choose.2, ⟨h.keys, fun i n e => ((ex n).choose_spec i e).1⟩, fun n m => ?_⟩
  obtain ⟨j, hj, ej⟩ := List.getElem_of_mem m
  exact ((ex n).choose_spec j (by rw [List.getElem?_eq_getElem hj, ej])).2
end
end K5
set_option Elab.async false
set_option linter.all false
set_option maxRecDepth 100000
set_option maxHeartbeats 4000000
namespace K5
open PySem L2
local macro_rules | `(tactic| walk_at "rd1") => `(tactic| first
  | refine ⟨_, _, rfl, rfl, ?_⟩
  | refine ⟨_, _, _, _, rfl, rfl, SqL.of (by assumption), rfl, ?_⟩
  | refine ⟨_, _, _, _, rfl, rfl, (by assumption), rfl, ?_⟩
  | refine .inl ⟨_, rfl, ?_⟩
  | refine ⟨_, rfl, ?_⟩
  | refine ⟨(by unfold CMul; omega), ?_⟩
  | refine ⟨(by unfold CPow; omega), ?_⟩
  | refine ⟨(by (try dsimp only); omega), ?_⟩
  | refine ⟨(by unfold CDiv; omega), ?_⟩
  | fail "rd1")
local macro_rules | `(tactic| walk_at "rd") => `(tactic| repeat' (walk_at "rd1"))
section
variable {P : Program} {w : World} {K : PySem.W.Frag} {mg : Str → Option Value} {base : Heap} {A : Ad}

structure Grow (K : PySem.W.Frag) (p : Addr) (H H' : Hp) (ds : List PyData) : Prop where
  ex : ∃ vs, H' p = some (.lst vs) ∧ DpAll K (er H' p) vs ds
  same : Same H (er H' p)
theorem Grow.start {p : Addr} {H : Hp} (hp : H p = none) : Grow K p H (upd H p (.lst [])) [] :=
  ⟨⟨[], upd_same, .nil⟩, fun b o e => by rw [er_upd]; exact er_of (ne_of_none e hp) e⟩
theorem Grow.up {p : Addr} {H H' H2 : Hp} {ds : List PyData} (g : Grow K p H H' ds) (s : Same H' H2) : Grow K p H H2 ds := by
  obtain ⟨vs, h1, h2⟩ := g.ex
  exact ⟨⟨vs, s _ _ h1, dpAllSame (er_mono s) h2⟩, g.same.trans (er_mono s)⟩
theorem dpAllApp {H : Hp} : ∀ {vs : List V} {ds : List PyData} {v : V} {d : PyData}, DpAll K H vs ds → Dp K H v d → DpAll K H (vs ++ [v]) (ds ++ [d])
  | _, _, _, _, .nil, h => .cons h .nil
  | _, _, _, _, .cons a b, h => .cons a (dpAllApp b h)
theorem Grow.app {p : Addr} {H H' : Hp} {ds : List PyData} {vs : List V} {v : V} {d : PyData} (g : Grow K p H H' ds) (hp : H' p = some (.lst vs)) (hv : Dp K (er H' p) v d) : Grow K p H (upd H' p (.lst (vs ++ [v]))) (ds ++ [d]) := by
  obtain ⟨vs', h1, h2⟩ := g.ex
  rw [hp] at h1
  cases h1
  exact ⟨⟨_, upd_same, by rw [er_upd]; exact dpAllApp h2 hv⟩, by rw [er_upd]; exact g.same⟩
theorem Grow.dp {p : Addr} {H H' : Hp} {ds : List PyData} (g : Grow K p H H' ds) : Dp K H' (.ref p) (.list ds) := by
  obtain ⟨vs, h1, h2⟩ := g.ex
  exact .lst (SqL.of h1) (dpAllSame (er_same _ _) h2)
def SqX (K : PySem.W.Frag) (H : Hp) (a : Addr) (xs : List V) : Prop := SqL K H a xs ∨ SqT K H a xs
theorem sxUp {H H' : Hp} {a : Addr} {xs : List V} (h : SqX K H a xs) (s : Same H H') : SqX K H' a xs := h.elim (fun q => .inl (sqUp q s)) (fun q => .inr (stUp q s))
theorem same_erp {H : Hp} {p : Addr} {o : HO} (hp : H p = none) : Same H (er (upd H p o) p) := fun b u e => by
  rw [er_upd]; exact er_of (ne_of_none e hp) e
theorem seq_or {H0 H : Hp} {t : Addr} {xs : List V} {j : Nat} {σ : St} {R : It → Hp → Prop} (h : SqX K H0 t xs) (s0 : Same H0 H) (hj : σ[j]? = some (some (.ref t))) (hR : ∀ J G, Walk J xs.length G (YAt xs) → (∀ H', Same H0 H' → G H') → R J H) :
    iList K (tVar j) σ H R ∨ iTup K (tVar j) σ H R :=
  h.elim (fun q => .inl ⟨_, hj, t, rfl, ⟨_, sqUp q s0⟩, hR _ _ walk_list fun H' s => sqUp q s⟩) (fun q => .inr ⟨_, hj, t, rfl, ⟨_, stUp q s0⟩, hR _ _ walk_tup fun H' s => stUp q s⟩)
theorem enum_or {H0 H : Hp} {t : Addr} {xs : List V} {j : Nat} {σ : St} {R : It → Hp → Prop} (h : SqX K H0 t xs) (s0 : Same H0 H) (hj : σ[j]? = some (some (.ref t))) (hR : ∀ J G, Walk J xs.length G (YPair (fun i => some (.int (i : Nat))) (fun i => xs[i]?)) → (∀ H', Same H0 H' → G H') → R J H) :
    iEnum K (tCons (tVar j) tNil) σ H R ∨ EnT.iEnumT K (tCons (tVar j) tNil) σ H R :=
  h.elim (fun q => .inl ⟨_, hj, t, _, rfl, sqUp q s0, hR _ _ walk_enum fun H' s => sqUp q s⟩) (fun q => .inr ⟨_, hj, t, _, rfl, stUp q s0, hR _ _ EnT.walk_enumT fun H' s => stUp q s⟩)
/-- a dict of dishes: each key a name, each value a tuple of bounds -/
structure DOk (K : PySem.W.Frag) (H : Hp) (kvs : List (Key × V)) : Prop where
  nd : (kvs.map (·.1)).Nodup
  each : ∀ (i : Nat) (k : Key) (v : V), kvs[i]? = some (k, v) → ∃ (s : Str) (a : Addr) (l m : Int), k = .inr s ∧ Nm s ∧ PyData.strOk s = true ∧ v = .ref a ∧ SqT K H a [.int l, .int m] ∧ 1 ≤ l ∧ l ≤ m
theorem DOk.up {H H' : Hp} {kvs : List (Key × V)} (h : DOk K H kvs) (s : Same H H') : DOk K H' kvs := ⟨h.nd, fun i k v e => by
  obtain ⟨z, a, l, m, e1, e2, e0, e3, e4, e5⟩ := h.each i k v e
  exact ⟨z, a, l, m, e1, e2, e0, e3, stUp e4 s, e5⟩⟩
def spChkD (K : PySem.W.Frag) : Sp := fun vs H Q _ => ∃ (dd : Addr) (kvs : List (Key × V)), vs = [.ref dd] ∧ H dd = some (.dK kvs) ∧ DOk K (er H dd) kvs ∧ ∀ H', Same H H' → Q .non H'
def spChkW (K : PySem.W.Frag) : Sp := fun vs H Q _ => ∃ (a dd : Addr) (xs : List V) (ds : List PyData) (kvs : List (Key × V)), vs = [.ref a, .ref dd] ∧ SqX K H a xs ∧ DpAll K H xs ds ∧ (∀ d ∈ ds, Wsh kvs d) ∧ Rd H dd (.dK kvs) ∧ ∀ H', Same H H' → Q .non H'
def spChkS (K : PySem.W.Frag) : Sp := fun vs H Q _ => ∃ (a dd : Addr), vs = [.ref a, .ref dd] ∧ SqX K H a [] ∧ ∀ H', Same H H' → Q .non H'
theorem dpX {H : Hp} {a : Addr} {xs : List V} {ds : List PyData} (h : SqX K H a xs) (hA : DpAll K H xs ds) : ∃ d, Dp K H (.ref a) d ∧ isL d = true :=
  h.elim (fun q => ⟨_, .lst q hA, rfl⟩) (fun q => ⟨_, .tup q hA, rfl⟩)
theorem ok_chkd (T : Txt K mg A) : FnOk P w K mg base CX0 3 A.a_check_dishes A.d_check_dishes P_check_dishes (spChkD K) := by
  have G_is_name : FnOk P w K mg base CX0 1 A.a_is_name A.d_is_name P_is_name spIsName := ok_isname T
  have G_is_bounds : FnOk P w K mg base CX0 2 A.a_is_bounds A.d_is_bounds P_is_bounds (spBounds K) := ok_bounds T
  refine T.f_check_dishes.ok sc_check_dishes (fun vs H Q E h => ?_) (fun cdv A' outer s H vs Q E hr h => ?_)
  · obtain ⟨dd, kvs, rfl, _⟩ := h
    rfl
  · obtain ⟨dd, kvs, rfl, hd, hO, k⟩ := h
    refine ⟨_, (pss_one (ps_lock (ps_for PassesOwn.never rfl (pi_keys (pv 0)) (pg_name (i := 1) sc_check_dishes.nd rfl (Or.inl rfl))
 (pss_one (ps_if (PW.pt (pw_or (pt_not (pt_val (pe_call G_is_name (hr.mono (by omega)) (by rfl) T.g_is_name T.f_is_name.kp T.b_is_name .nil pass0 (pa_cons (pv 1) pa_nil)))) (pw_or1 (pt_not (pt_val (pe_call G_is_bounds (hr.mono (by omega)) (by rfl) T.g_is_bounds T.f_is_bounds.kp T.b_is_bounds .nil pass0 (pa_cons (pe_dget (hu_of hr) (pv 0) (pv 1) (fun _ _ => rfl)) pa_nil)))))))
 (pss_one ps_never)
 pss_nil))))), ?_⟩
    refine ⟨dd, _, hd, trivial, fun od => ?_⟩
    have sE : Same (er H dd) (upd H dd (.frz od (.dK kvs))) := fun b u e => by rw [upd_ne (er_some e).1]; exact (er_some e).2
    refine ⟨_, rfl, dd, od, rfl, .inl ⟨kvs, upd_same, for_it walk_keys (fun i σ' H' => ∃ x, σ' = [some (.ref dd), x] ∧ Same (upd H dd (.frz od (.dK kvs))) H') ⟨none, rfl, Same.refl _⟩ (fun i σ' H' _ ⟨_, _, s⟩ => s _ _ upd_same) ?_ ?_⟩⟩
    · rintro i x σ' H' H'' hi ⟨y, rfl, s1⟩ ⟨rfl, key, v, hk, rfl⟩
      obtain ⟨z, a, l, m, rfl, hN, _, rfl, ha, hb1, hb2⟩ := hO.each i _ _ hk
      refine ⟨_, rfl, z, rfl, hN, fun H2 s2 => ⟨_, rfl, iteF ?_⟩⟩
      have hd2 : H2 dd = some (.frz od (.dK kvs)) := s2 _ _ (s1 _ _ upd_same)
      have ha2 := stUp ha (sE.trans (s1.trans s2))
      refine ⟨_, rfl, _, rfl, dd, .ref a, rfl, .inl ⟨kvs, .inr z, .inr ⟨od, hd2⟩, rfl, (valV_at hO.nd hk).symm⟩, a, l, m, rfl, ha2, hb1, hb2, fun H3 s3 => ⟨_, rfl, iteF ?_⟩⟩
      exact ⟨_, rfl, (s1.trans s2).trans s3⟩
    · rintro σ' H' ⟨x, rfl, s1⟩
      refine ⟨s1 _ _ upd_same, k _ fun b u e => ?_⟩
      by_cases hb : b = dd
      · subst hb
        rw [hd] at e
        cases e
        exact upd_same
      · rw [upd_ne hb]
        exact s1 _ _ (by rw [upd_ne hb]; exact e)
theorem ok_chkw (T : Txt K mg A) : FnOk P w K mg base CX0 4 A.a_check_wishes A.d_check_wishes P_check_wishes (spChkW K) := by
  have G_is_list : FnOk P w K mg base CX0 1 A.a_is_list A.d_is_list P_is_list (spIsList K) := ok_islist T
  have G_is_wish : FnOk P w K mg base CX0 3 A.a_is_wish A.d_is_wish P_is_wish (spWish K) := ok_wish T
  refine T.f_check_wishes.ok sc_check_wishes (fun vs H Q E h => ?_) (fun cdv A' outer s H vs Q E hr h => ?_)
  · obtain ⟨a, dd, xs, ds, kvs, rfl, _⟩ := h
    rfl
  · obtain ⟨a, dd, xs, ds, kvs, rfl, ha, hA, hW, hd, k⟩ := h
    refine ⟨_, (pss_cons (ps_if (pt_not (pt_val (pe_call G_is_list (hr.mono (by omega)) (by rfl) T.g_is_list T.f_is_list.kp T.b_is_list .nil pass0 (pa_cons (pv 0) pa_nil))))
 (pss_one ps_never)
 pss_nil)
 (pss_one (ps_for PassesOwn.never rfl (EnT.pi_or (pi_enum (by rfl) T.enumerate (pa_cons (pv 0) pa_nil)) (EnT.pi_enumT (by rfl) T.enumerate (pa_cons (pv 0) pa_nil))) (pg_tup (by rfl) (pgs_cons (pg_name (i := 2) sc_check_wishes.nd rfl (Or.inl rfl)) (pgs_cons (pg_name (i := 3) sc_check_wishes.nd rfl (Or.inl rfl)) pgs_nil)))
 (pss_one (ps_if (pt_not (pt_val (pe_call G_is_wish (hr.mono (by omega)) (by rfl) T.g_is_wish T.f_is_wish.kp T.b_is_wish .nil pass0 (pa_cons (pv 3) (pa_cons (pv 1) pa_nil)))))
 (pss_one ps_never)
 pss_nil))))), ?_⟩
    obtain ⟨d, hD, hL⟩ := dpX ha hA
    refine ⟨_, rfl, _, d, rfl, hD, fun H1 s1 => ⟨_, rfl, ?_⟩⟩
    rw [hL]
    refine iteF ?_
    refine enum_or ha s1 rfl fun J G wk hG => for_it wk (fun i σ' H' => ∃ x y, σ' = [some (.ref a), some (.ref dd), x, y] ∧ Same H H') ⟨none, none, rfl, s1⟩ (fun i σ' H' _ ⟨_, _, _, s⟩ => hG H' s) ?_ ?_
    · rintro i x σ' H' H'' hi ⟨_, _, rfl, s2⟩ ⟨Tt, u, v, rfl, hT, rfl, hu, hv⟩
      have eu : u = .int (i : Nat) := (Option.some.inj hu).symm
      subst eu
      obtain ⟨d', hd1, hd2⟩ := dpGet hA hv
      have s3 : Same H (upd H' Tt (.tup [.int (i : Nat), v])) := s2.trans (Same.new hT)
      refine ⟨Tt, _, rfl, SqT.of upd_same, rfl, _, _, rfl, _, _, rfl, rfl, ?_⟩
      refine ⟨_, rfl, _, rfl, v, dd, d', kvs, rfl, dpSame s3 hd2, hW d' (List.mem_of_getElem? hd1), rdUp hd s3, fun H4 s4 => ⟨_, rfl, iteF ?_⟩⟩
      exact ⟨_, _, rfl, s3.trans s4⟩
    · rintro σ' H' ⟨_, _, rfl, s2⟩
      exact k _ s2
theorem ok_chks (T : Txt K mg A) : FnOk P w K mg base CX0 2 A.a_check_stations A.d_check_stations P_check_stations (spChkS K) := by
  have G_is_list : FnOk P w K mg base CX0 1 A.a_is_list A.d_is_list P_is_list (spIsList K) := ok_islist T
  refine T.f_check_stations.ok sc_check_stations (fun vs H Q E h => ?_) (fun cdv A' outer s H vs Q E hr h => ?_)
  · obtain ⟨a, dd, rfl, _⟩ := h
    rfl
  · obtain ⟨a, dd, rfl, ha, k⟩ := h
    refine ⟨_, (pss_cons (ps_if (pt_not (pt_val (pe_call G_is_list (hr.mono (by omega)) (by rfl) T.g_is_list T.f_is_list.kp T.b_is_list .nil pass0 (pa_cons (pv 0) pa_nil))))
 (pss_one ps_never)
 pss_nil)
 (pss_one (ps_for PassesOwn.never rfl (EnT.pi_or (pi_enum (by rfl) T.enumerate (pa_cons (pv 0) pa_nil)) (EnT.pi_enumT (by rfl) T.enumerate (pa_cons (pv 0) pa_nil))) (pg_tup (by rfl) (pgs_cons (pg_name (i := 2) sc_check_stations.nd rfl (Or.inl rfl)) (pgs_cons (pg_name (i := 3) sc_check_stations.nd rfl (Or.inl rfl)) pgs_nil)))
 pss_never))), ?_⟩
    obtain ⟨d, hD, hL⟩ := dpX ha .nil
    refine ⟨_, rfl, _, d, rfl, hD, fun H1 s1 => ⟨_, rfl, ?_⟩⟩
    rw [hL]
    refine iteF ?_
    refine enum_or ha s1 rfl fun J G wk hG => for_it wk (fun i σ' H' => Same H H') s1 (fun i σ' H' _ s => hG H' s) ?_ ?_
    · rintro i x σ' H' H'' hi
      exact absurd hi (Nat.not_lt_zero _)
    · exact fun σ' H' s2 => k _ s2
def rTupOf (K : PySem.W.Frag) : List V → Hp → VK → Prop := fun us H Q => ∃ b zs, us = [.ref b] ∧ ((SqL K H b zs ∧ ∀ l, H l = none → Q (.ref l) (upd H l (.tup zs))) ∨ (SqT K H b zs ∧ Q (.ref b) H))
theorem tupOf {X : Cx} {K : PySem.W.Frag} (h : X.K = K) : CallR X (.type "tuple") (rTupOf K) := h ▸ call_tuple_of
theorem putF_len (f : Str) (v : V) : ∀ fs : List (Str × V), (putF f v fs).length ≤ fs.length + 1
  | [] => Nat.le_refl _
  | (g, x) :: r => by
    unfold putF
    by_cases e : g = f
    · rw [if_pos e]; exact Nat.le_succ _
    · rw [if_neg e]; exact Nat.succ_le_succ (putF_len f v r)
theorem momEr {H : Hp} {D : Addr} {u : HO} {v : V} {d : PyData} {kvs : List (Key × V)} (hD : H D = some u) (hu : NoTup u) (h : Dp K H v d) (m : Mom kvs d) : Dp K (er H D) v d := by
  cases m with
  | clock => cases h; exact .str _
  | edge he hn ok =>
    cases h with
    | tup hq hA =>
      cases hA with
      | cons h1 hA =>
        cases h1
        cases hA with
        | cons h2 hA =>
          cases h2
          cases hA
          exact .tup (tupEr hD hu hq) (.cons (.str _) (.cons (.str _) .nil))
theorem wshEr {H : Hp} {D : Addr} {u : HO} {v : V} {d : PyData} {kvs : List (Key × V)} (hD : H D = some u) (hu : NoTup u) (h : Dp K H v d) (m : Wsh kvs d) : Dp K (er H D) v d := by
  cases m with
  | mk ha hb =>
    cases h with
    | tup hq hA =>
      cases hA with
      | cons h1 hA =>
        cases hA with
        | cons h2 hA =>
          cases hA with
          | cons h3 hA =>
            cases h3
            cases hA
            exact .tup (tupEr hD hu hq) (.cons (momEr hD hu h1 ha) (.cons (momEr hD hu h2 hb) (.cons (.int _) .nil)))
theorem wshAllEr {H : Hp} {D : Addr} {u : HO} {kvs : List (Key × V)} (hD : H D = some u) (hu : NoTup u) : ∀ {vs : List V} {ds : List PyData}, DpAll K H vs ds → (∀ d ∈ ds, Wsh kvs d) → DpAll K (er H D) vs ds
  | _, _, .nil, _ => .nil
  | _, _, .cons a b, m => .cons (wshEr hD hu a (m _ (List.mem_cons_self ..))) (wshAllEr hD hu b fun d hd => m d (List.mem_cons_of_mem _ hd))
theorem noTup_ins (C dx : Addr) (fs : List (Str × V)) : NoTup (.ins C dx fs) := ⟨fun _ z => (nomatch z), fun _ _ z => (nomatch z)⟩
/-- a meal at p -/
structure MlAt (K : PySem.W.Frag) (C : Addr) (H : Hp) (p : Addr) (ys : List Str) (lo hi : Str → Int) (ds : List PyData) : Prop where
  ex : ∃ (dx qb qw qp : Addr) (kvs : List (Key × V)) (ws : List V), H p = some (.ins C dx [("bounds", .ref qb), ("wished", .ref qw), ("places", .ref qp)]) ∧ H qb = some (.dK kvs) ∧ Pr2 K H ys (fun n => .int (lo n)) (fun n => .int (hi n)) kvs ∧ SqT K H qw ws ∧ DpAll K H ws ds
theorem MlAt.up {C : Addr} {H H' : Hp} {p : Addr} {ys : List Str} {lo hi : Str → Int} {ds : List PyData} (h : MlAt K C H p ys lo hi ds) (s : Same H H') : MlAt K C H' p ys lo hi ds := by
  obtain ⟨dx, qb, qw, qp, kvs, ws, h1, h2, h3, h4, h5⟩ := h.ex
  exact ⟨dx, qb, qw, qp, kvs, ws, s _ _ h1, s _ _ h2, h3.up s, stUp h4 s, dpAllSame s h5⟩
def spInit (K : PySem.W.Frag) (C : Addr) : Sp := fun vs H Q _ => ∃ (p dx dd a s0 : Addr) (kvs : List (Key × V)) (ks : List Str) (lo hi : Str → Int) (xs : List V) (ds : List PyData), vs = [.ref p, .ref dd, .ref a, .ref s0] ∧ H p = some (.ins C dx []) ∧
  H dd = some (.dK kvs) ∧ Pr2 K H ks (fun n => .int (lo n)) (fun n => .int (hi n)) kvs ∧ ks.Nodup ∧ (∀ n ∈ ks, (Nm n ∧ PyData.strOk n = true) ∧ 1 ≤ lo n ∧ lo n ≤ hi n) ∧ ks.length < 64 ∧ SqX K (er H p) a xs ∧ DpAll K (er H p) xs ds ∧ ds.length ≤ 1000 ∧ (∀ d ∈ ds, Wsh kvs d) ∧ SqX K (er H p) s0 [] ∧
  ∀ (H' : Hp) (ys : List Str), MlAt K C H' p ys lo hi ds → ys.Perm ks → PyProof.Rows.sortedS ys = true → Same (er H p) (er H' p) → Q .non H'
theorem flds3 (x y z : V) : putF "places" z (putF "wished" y (putF "bounds" x [])) = ([("bounds", x), ("wished", y), ("places", z)] : List (Str × V)) := by
  have h1 : putF "wished" y [(("bounds" : Str), x)] = ([("bounds", x), ("wished", y)] : List (Str × V)) := by
    show (if ("bounds" : Str) = "wished" then _ else _) = _
    rw [if_neg (by decide +kernel)]; rfl
  show putF "places" z (putF "wished" y [(("bounds" : Str), x)]) = _
  rw [h1]
  show (if ("bounds" : Str) = "places" then _ else _) = _
  rw [if_neg (by decide +kernel)]
  show _ :: (if ("wished" : Str) = "places" then _ else _) = _
  rw [if_neg (by decide +kernel)]; rfl
theorem ok_init (T : Txt K mg A) : FnOk P w K mg base CX0 5 A.a_Meal___init__ A.d_Meal___init__ P_Meal___init__ (spInit K A.a_Meal) := by
  have G_check_dishes : FnOk P w K mg base CX0 3 A.a_check_dishes A.d_check_dishes P_check_dishes (spChkD K) := ok_chkd T
  have G_check_wishes : FnOk P w K mg base CX0 4 A.a_check_wishes A.d_check_wishes P_check_wishes (spChkW K) := ok_chkw T
  have G_check_stations : FnOk P w K mg base CX0 2 A.a_check_stations A.d_check_stations P_check_stations (spChkS K) := ok_chks T
  have G_as_wish : FnOk P w K mg base CX0 2 A.a_as_wish A.d_as_wish P_as_wish (spAsW K) := ok_asw T
  refine T.f_Meal___init__.ok sc_Meal___init__ (fun vs H Q E h => ?_) (fun cdv A' outer s H vs Q E hr h => ?_)
  · obtain ⟨p, dx, dd, a, s0, kvs, ks, lo, hi, xs, ds, rfl, _⟩ := h
    rfl
  · obtain ⟨p, dx, dd, a, s0, kvs, ks, lo, hi, xs, ds, rfl, hp, hd, hP, kN, hB, hk64, ha, hA, hlen, hW, hs0, k⟩ := h
    refine ⟨_, PSs.nox (pss_cons (ps_expr (pe_call G_check_dishes (hr.mono (by omega)) (by rfl) T.g_check_dishes T.f_check_dishes.kp T.b_check_dishes .nil pass0 (pa_cons (pv 1) pa_nil)))
 (pss_cons (ps_expr (pe_call G_check_wishes (hr.mono (by omega)) (by rfl) T.g_check_wishes T.f_check_wishes.kp T.b_check_wishes .nil pass0 (pa_cons (pv 2) (pa_cons (pv 1) pa_nil))))
 (pss_cons (ps_expr (pe_call G_check_stations (hr.mono (by omega)) (by rfl) T.g_check_stations T.f_check_stations.kp T.b_check_stations .nil pass0 (pa_cons (pv 3) (pa_cons (pv 1) pa_nil))))
 (pss_cons (ps_fld (pv 0) (pe_dc (own := [("name", 4)]) (g := gName 4) (by rfl) sc_Meal___init__.nd (pi_list (pe_callB (call_sortedD rfl) (by rfl) T.sorted (by decide +kernel) (pa_cons (pv 1) pa_nil))) (blkOk_by (N := N_Meal___init__) (sc := defScope s_Meal___init__) (by decide +kernel)) (fun _ _ _ _ _ => pg_name (i := 4) sc_Meal___init__.nd rfl (Or.inl rfl)) (fun _ _ _ _ _ => pts_nil) (fun _ _ _ _ _ => (pv 4)) (fun _ _ _ _ _ => (pe_callTy (tupOf (K := K) rfl) (by rfl) T.tuple (by decide +kernel) (pa_cons (pe_dget (hu_of hr) (pv 1) (pv 4) (fun _ _ => rfl)) pa_nil)))) rfl)
 (pss_cons (ps_fld (pv 0) (pe_callTy call_tuple_of (by rfl) T.tuple (by decide +kernel) (pa_cons (pe_lc (own := [("wish", 5)]) (g := gName 5) (by rfl) sc_Meal___init__.nd (EnT.pi_or (pi_list (pv 2)) (pi_tup (pv 2))) (blkOk_by (N := N_Meal___init__) (sc := defScope s_Meal___init__) (by decide +kernel)) (fun _ _ _ _ _ => pg_name (i := 5) sc_Meal___init__.nd rfl (Or.inl rfl)) (fun _ _ _ _ _ => pts_nil) (fun _ _ _ _ _ => (pe_call G_as_wish (hr.mono (by omega)) (by rfl) T.g_as_wish T.f_as_wish.kp T.b_as_wish .nil pass0 (pa_cons (pv 5) pa_nil)))) pa_nil)) rfl)
 (pss_one (ps_fld (pv 0) (pe_callTy call_tuple_of (by rfl) T.tuple (by decide +kernel) (pa_cons (pe_lc (own := [("station", 6)]) (g := gName 6) (by rfl) sc_Meal___init__.nd (EnT.pi_or (pi_list (pv 3)) (pi_tup (pv 3))) (blkOk_by (N := N_Meal___init__) (sc := defScope s_Meal___init__) (by decide +kernel)) (fun _ _ _ _ _ => pg_name (i := 6) sc_Meal___init__.nd rfl (Or.inl rfl)) (fun _ _ _ _ _ => pts_nil) (fun _ _ _ _ _ => (pe_callTy (tupOf (K := K) rfl) (by rfl) T.tuple (by decide +kernel) (pa_cons (pv 6) pa_nil)))) pa_nil)) rfl))))))), ?_⟩
    have hks := hP.keys
    have hO : DOk K (er H dd) kvs := ⟨by rw [hks]; exact inr_nd kN, fun i k v e => by
      obtain ⟨hi1, b, rfl, rfl, e2⟩ := hP.get e
      obtain ⟨⟨q1, q2⟩, q3, q4⟩ := hB _ (List.getElem_mem hi1)
      exact ⟨_, b, _, _, rfl, q1, q2, rfl, tupEr hd (noTup_dK _) e2, q3, q4⟩⟩
    have npd : dd ≠ p := ne_of hd hp (fun z => nomatch z)
    refine ⟨_, rfl, dd, kvs, rfl, hd, hO, fun H1 s1 => ?_⟩
    refine ⟨_, rfl, _, rfl, a, dd, xs, ds, kvs, rfl, sxUp ha ((er_same _ _).trans s1), dpAllSame ((er_same _ _).trans s1) hA, hW, .inl (s1 _ _ hd), fun H2 s2 => ?_⟩
    refine ⟨_, rfl, _, rfl, s0, dd, rfl, sxUp hs0 (((er_same _ _).trans s1).trans s2), fun H3 s3 => ?_⟩
    have S3 : Same H H3 := (s1.trans s2).trans s3
    have hd3 := S3 _ _ hd
    have hp3 := S3 _ _ hp
    -- self.bounds
    refine ⟨_, rfl, dd, kvs, ks, rfl, .inl hd3, hks, hk64, fun ys q hperm hsort hq => ?_⟩
    have yN : ys.Nodup := hperm.nodup_iff.mpr kN
    refine ⟨q, rfl, ⟨_, SqL.of upd_same⟩, fun D hD => fillD walk_list (fun i H' => Same (upd H3 q (.lst (ys.map V.str))) H' ∧ ∃ kk, H' D = some (.dK kk) ∧ Pr2 K H' (ys.take i) (fun n => .int (lo n)) (fun n => .int (hi n)) kk) ⟨Same.new hD, [], upd_same, Pr2.nil⟩ (fun i H' _ h => SqL.of (h.1 _ _ upd_same)) ?_ (fun H4 h4 => ?_)⟩
    · rintro i x H' H'' hi1 ⟨s4, kk, hkk, hkl⟩ ⟨rfl, hx⟩
      obtain ⟨hi1, rfl⟩ := str_at hx
      have hm : ys[i] ∈ ks := hperm.mem_iff.mp (List.getElem_mem hi1)
      obtain ⟨b, hv, hb⟩ := hP.val kN hm
      have S4 : Same H H'' := S3.trans ((Same.new hq).trans s4)
      have hyl : i < 64 := by have := hperm.length_eq; omega
      have hkn : (Sum.inr ys[i] : Key) ∉ kk.map (·.1) := by
        rw [hkl.keys]
        intro m
        obtain ⟨z, hz, ez⟩ := List.mem_map.mp m
        exact not_in_take yN hi1 (by rw [← Sum.inr.inj ez]; exact hz)
      refine ⟨rfl, _, rfl, _, rfl, _, rfl, dd, .ref b, rfl, .inl ⟨kvs, .inr ys[i], .inl (S4 _ _ hd), rfl, hv.symm⟩, b, _, rfl, .inr ⟨stUp hb S4, kk, .inr ys[i], rfl, hkk, ?_, ?_, ?_⟩⟩
      · rw [hkl.len, List.length_take]
        exact Nat.lt_of_le_of_lt (show min i _ ≤ 64 by omega) (by decide)
      · exact fun c u e => by rw [upd_ne (ne_of_none e hD)]; exact s4 _ _ e
      · rw [put_new _ _ _ hkn]
        refine ⟨_, upd_same, ?_⟩
        have e1 : ys.take (i + 1) = ys.take i ++ [ys[i]] := by rw [List.take_succ, List.getElem?_eq_getElem hi1]; rfl
        rw [e1]
        exact (hkl.set hkk (noTup_dK _)).snoc (tupSet hkk (noTup_dK _) (stUp hb S4))
    · obtain ⟨s4, kk, hkk, hkl⟩ := h4
      rw [List.length_map, List.take_length] at hkl
      have S4 : Same H H4 := S3.trans ((Same.new hq).trans s4)
      have hp4 := S4 _ _ hp
      have nDp : D ≠ p := fun e => by rw [e, hp4] at hkk; cases hkk
      refine ⟨_, rfl, p, A.a_Meal, dx, _, rfl, hp4, T.cl_M, T.nB, by decide, ?_⟩
      have F4 : Same (er H4 p) (er (upd H4 p (.ins A.a_Meal dx (putF "bounds" (.ref D) []))) p) := by rw [er_upd]; exact Same.refl _
      have E4 : Same (er H p) (er (upd H4 p (.ins A.a_Meal dx (putF "bounds" (.ref D) []))) p) := by rw [er_upd]; exact er_mono S4
      generalize hH5 : upd H4 p (.ins A.a_Meal dx (putF "bounds" (.ref D) [])) = H5 at E4 F4 ⊢
      have hp5 : H5 p = some (.ins A.a_Meal dx (putF "bounds" (.ref D) [])) := by rw [← hH5]; exact upd_same
      have B5 : Same (er H p) H5 := E4.trans (er_same _ _)
      -- self.wished
      refine seq_or ha B5 rfl fun J G wk hG => fun D2 hD2 => lc_it wk (fun i H' => Grow K D2 H5 H' (ds.take i)) (Grow.start hD2) (fun i H' _ g => hG H' (B5.trans (g.same.trans (er_same _ _)))) ?_ (fun H6 g => ?_)
      · rintro i x H' H'' hi g ⟨rfl, hx⟩
        obtain ⟨d, hd1, hd2⟩ := dpGet hA hx
        obtain ⟨acc, hac, hAc⟩ := id g.ex
        have hal := dpLen hAc
        have hil : i < ds.length := (List.getElem?_eq_some_iff.mp hd1).1
        have B6 := B5.trans (g.same.trans (er_same _ _))
        refine ⟨rfl, _, rfl, x, d, kvs, rfl, dpSame B6 hd2, hW d (List.mem_of_getElem? hd1), fun r H7 _ s7 hr7 => ?_⟩
        refine ⟨acc, s7 _ _ hac, Nat.lt_of_le_of_lt (show acc.length ≤ 1000 by rw [hal, List.length_take]; omega) (by decide), ?_⟩
        have e1 : ds.take (i + 1) = ds.take i ++ [d] := by rw [List.take_succ, hd1]; rfl
        rw [e1]
        exact (g.up s7).app (s7 _ _ hac) (wshEr (s7 _ _ hac) (noTup_lst _) hr7 (hW d (List.mem_of_getElem? hd1)))
      · rw [dpLen hA, List.take_length] at g
        obtain ⟨acc, hac, hAc⟩ := id g.ex
        refine ⟨D2, _, rfl, .inl ⟨SqL.of hac, fun t ht => ?_⟩⟩
        have S6 : Same H5 (upd H6 t (.tup acc)) := (g.same.trans (er_same _ _)).trans (Same.new ht)
        have A6 : DpAll K (upd H6 t (.tup acc)) acc ds := dpAllSame ((er_same _ _).trans (Same.new ht)) hAc
        refine ⟨_, rfl, p, A.a_Meal, dx, _, rfl, S6 _ _ hp5, T.cl_M, T.nW, Nat.lt_of_le_of_lt (putF_len _ _ _) (by decide), ?_⟩
        have A7 : DpAll K (er (upd H6 t (.tup acc)) p) acc ds := wshAllEr (S6 _ _ hp5) (noTup_ins _ _ _) A6 hW
        have q7 : SqT K (er (upd H6 t (.tup acc)) p) t acc := tupEr (S6 _ _ hp5) (noTup_ins _ _ _) (SqT.of upd_same)
        have E7 : Same (er H p) (er (upd H6 t (.tup acc)) p) := E4.trans (er_mono S6)
        have F7 : Same (er H4 p) (er (upd H6 t (.tup acc)) p) := F4.trans (er_mono S6)
        generalize upd H6 t (.tup acc) = H7 at A7 q7 E7 F7 ⊢
        have A8 : DpAll K (er (upd H7 p (.ins A.a_Meal dx (putF "wished" (.ref t) (putF "bounds" (.ref D) [])))) p) acc ds := by rw [er_upd]; exact A7
        have q8 : SqT K (er (upd H7 p (.ins A.a_Meal dx (putF "wished" (.ref t) (putF "bounds" (.ref D) [])))) p) t acc := by rw [er_upd]; exact q7
        have E8 : Same (er H p) (er (upd H7 p (.ins A.a_Meal dx (putF "wished" (.ref t) (putF "bounds" (.ref D) [])))) p) := by rw [er_upd]; exact E7
        have F8 : Same (er H4 p) (er (upd H7 p (.ins A.a_Meal dx (putF "wished" (.ref t) (putF "bounds" (.ref D) [])))) p) := by rw [er_upd]; exact F7
        generalize hH8 : upd H7 p (.ins A.a_Meal dx (putF "wished" (.ref t) (putF "bounds" (.ref D) []))) = H8 at A8 q8 E8 F8 ⊢
        have hp8 : H8 p = some (.ins A.a_Meal dx (putF "wished" (.ref t) (putF "bounds" (.ref D) []))) := by rw [← hH8]; exact upd_same
        have B8 : Same (er H p) H8 := E8.trans (er_same _ _)
        -- self.places
        refine seq_or hs0 B8 rfl fun J G wk hG => fun D3 hD3 => lc_it wk (fun i H' => Same H8 H' ∧ ∃ zs, H' D3 = some (.lst zs)) ⟨Same.new hD3, _, upd_same⟩ (fun i H' _ h => hG H' (B8.trans h.1)) ?_ (fun H9 h9 => ?_)
        · rintro i x H' H'' hi
          exact absurd hi (Nat.not_lt_zero _)
        · obtain ⟨s9, zs, hz⟩ := h9
          refine ⟨D3, _, rfl, .inl ⟨SqL.of hz, fun t2 ht2 => ?_⟩⟩
          have S10 : Same H8 (upd H9 t2 (.tup zs)) := s9.trans (Same.new ht2)
          refine ⟨_, rfl, p, A.a_Meal, dx, _, rfl, S10 _ _ hp8, T.cl_M, T.nP, Nat.lt_of_le_of_lt (putF_len _ _ _) (Nat.lt_of_le_of_lt (Nat.succ_le_succ (putF_len _ _ _)) (by decide)), ?_⟩
          have F10 : Same (er H4 p) (er (upd (upd H9 t2 (.tup zs)) p (.ins A.a_Meal dx (putF "places" (.ref t2) (putF "wished" (.ref t) (putF "bounds" (.ref D) []))))) p) := by rw [er_upd]; exact F8.trans (er_mono S10)
          refine k _ ys ⟨dx, D, t, t2, kk, acc, by rw [upd_same, flds3], (er_same _ p) _ _ (F10 _ _ (er_of nDp hkk)), ((hkl.er hp4 (noTup_ins _ _ _)).up F10).up (er_same _ p), stUp (H := er _ p) ?_ (er_same _ p), dpAllSame (er_same _ p) (by rw [er_upd]; exact dpAllSame (er_mono S10) A8)⟩ hperm hsort (by rw [er_upd]; exact E8.trans (er_mono S10))
          rw [er_upd]; exact stUp q8 (er_mono S10)
end
end K5
set_option Elab.async false
set_option linter.all false
set_option maxRecDepth 100000
set_option maxHeartbeats 4000000
namespace K5
open PySem L2
local macro_rules | `(tactic| walk_at "rd1") => `(tactic| first
  | refine ⟨_, _, rfl, rfl, ?_⟩
  | refine ⟨_, _, _, _, rfl, rfl, SqL.of (by assumption), rfl, ?_⟩
  | refine ⟨_, _, _, _, rfl, rfl, (by assumption), rfl, ?_⟩
  | refine .inl ⟨_, rfl, ?_⟩
  | refine ⟨_, rfl, ?_⟩
  | refine ⟨(by unfold CMul; omega), ?_⟩
  | refine ⟨(by unfold CPow; omega), ?_⟩
  | refine ⟨(by (try dsimp only); omega), ?_⟩
  | refine ⟨(by unfold CDiv; omega), ?_⟩
  | fail "rd1")
local macro_rules | `(tactic| walk_at "rd") => `(tactic| repeat' (walk_at "rd1"))
section
variable {P : Program} {w : World} {K : PySem.W.Frag} {mg : Str → Option Value} {base : Heap} {A : Ad}

def spMDishes (K : PySem.W.Frag) (C : Addr) : Sp := fun vs H Q _ => ∃ (p : Addr) (ys : List Str) (lo hi : Str → Int) (ds : List PyData), vs = [.ref p] ∧ MlAt K C H p ys lo hi ds ∧
  ∀ l H' kvs, H l = none → Same H H' → H' l = some (.dK kvs) → Pr2 K H' ys (fun n => .int (lo n)) (fun n => .int (hi n)) kvs → Q (.ref l) H'
theorem ok_mdishes (T : Txt K mg A) : FnOk P w K mg base CX0 1 A.a_Meal_dishes A.d_Meal_dishes P_Meal_dishes (spMDishes K A.a_Meal) := by
  refine T.f_Meal_dishes.ok sc_Meal_dishes (fun vs H Q E h => ?_) (fun cdv A' outer s H vs Q E hr h => ?_)
  · obtain ⟨p, ys, lo, hi, ds, rfl, _⟩ := h
    rfl
  · obtain ⟨p, ys, lo, hi, ds, rfl, M, k⟩ := h
    obtain ⟨dx, qb, qw, qp, kvs, ws, hp, hb, hP, hw, hA⟩ := M.ex
    refine ⟨_, (pss_one (ps_ret (pe_callTy call_dictD (by rfl) T.dict (by decide +kernel) (pa_cons (pe_fld (pv 0) rfl) pa_nil)))), ?_⟩
    exact ⟨_, rfl, p, A.a_Meal, dx, _, _, rfl, hp, T.cl_M, T.nB, by rfl, qb, _, rfl, .inl hb, fun l hl => k l _ kvs hl (Same.new hl) upd_same (hP.up (Same.new hl))⟩
def spMWishes (K : PySem.W.Frag) (C : Addr) : Sp := fun vs H Q _ => ∃ (p : Addr) (ys : List Str) (lo hi : Str → Int) (ds : List PyData), vs = [.ref p] ∧ MlAt K C H p ys lo hi ds ∧
  ∀ l ws, H l = none → DpAll K H ws ds → Q (.ref l) (upd H l (.lst ws))
theorem ok_mwishes (T : Txt K mg A) : FnOk P w K mg base CX0 1 A.a_Meal_wishes A.d_Meal_wishes P_Meal_wishes (spMWishes K A.a_Meal) := by
  refine T.f_Meal_wishes.ok sc_Meal_wishes (fun vs H Q E h => ?_) (fun cdv A' outer s H vs Q E hr h => ?_)
  · obtain ⟨p, ys, lo, hi, ds, rfl, _⟩ := h
    rfl
  · obtain ⟨p, ys, lo, hi, ds, rfl, M, k⟩ := h
    obtain ⟨dx, qb, qw, qp, kvs, ws, hp, hb, hP, hw, hA⟩ := M.ex
    refine ⟨_, (pss_one (ps_ret (pe_callTy call_list_of (by rfl) T.list (by decide +kernel) (pa_cons (pe_fld (pv 0) rfl) pa_nil)))), ?_⟩
    exact ⟨_, rfl, p, A.a_Meal, dx, _, _, rfl, hp, T.cl_M, T.nW, by rfl, qw, ws, rfl, .inr hw, fun l hl => k l ws hl hA⟩
/-- len(meal), also while its dict is locked -/
def spMLen (C : Addr) : Sp := fun vs H Q _ => ∃ (p dx qb qw qp : Addr) (kvs : List (Key × V)), vs = [.ref p] ∧ H p = some (.ins C dx [("bounds", .ref qb), ("wished", .ref qw), ("places", .ref qp)]) ∧ Rd H qb (.dK kvs) ∧ Q (.int kvs.length) H
theorem ok_mlen (T : Txt K mg A) : FnOk P w K mg base CX0 1 A.a_Meal___len__ A.d_Meal___len__ P_Meal___len__ (spMLen A.a_Meal) := by
  refine T.f_Meal___len__.ok sc_Meal___len__ (fun vs H Q E h => ?_) (fun cdv A' outer s H vs Q E hr h => ?_)
  · obtain ⟨p, dx, qb, qw, qp, kvs, rfl, _⟩ := h
    rfl
  · obtain ⟨p, dx, qb, qw, qp, kvs, rfl, hp, hb, k⟩ := h
    refine ⟨_, (pss_one (ps_ret (pe_callB Own.call_lenRd (by rfl) T.len PySem.boot_len (pa_cons (pe_fld (pv 0) rfl) pa_nil)))), ?_⟩
    exact ⟨_, rfl, p, A.a_Meal, dx, _, _, rfl, hp, T.cl_M, T.nB, by rfl, qb, _, rfl, hb, k⟩
def spMIter (C : Addr) (n : Nat) : Sp := fun vs H Q _ => ∃ (p dx qb qw qp : Addr) (od : Obj) (kvs : List (Key × V)), vs = [.ref p] ∧ H p = some (.ins C dx [("bounds", .ref qb), ("wished", .ref qw), ("places", .ref qp)]) ∧ H qb = some (.frz od (.dK kvs)) ∧ ∀ it, H it = none → n ≤ it → Q (.ref it) (upd H it (Own.KiO qb od it))
theorem ok_miter (T : Txt K mg A) : FnOk P w K mg base CX0 1 A.a_Meal___iter__ A.d_Meal___iter__ P_Meal___iter__ (spMIter A.a_Meal base.objs.size) := by
  refine T.f_Meal___iter__.ok sc_Meal___iter__ (fun vs H Q E h => ?_) (fun cdv A' outer s H vs Q E hr h => ?_)
  · obtain ⟨p, dx, qb, qw, qp, od, kvs, rfl, _⟩ := h
    rfl
  · obtain ⟨p, dx, qb, qw, qp, od, kvs, rfl, hp, hb, k⟩ := h
    refine ⟨_, (pss_one (ps_ret (pe_callB Own.call_iterD (by rfl) T.iter (by decide +kernel) (pa_cons (pe_fld (pv 0) rfl) pa_nil)))), ?_⟩
    exact ⟨_, rfl, p, A.a_Meal, dx, _, _, rfl, hp, T.cl_M, T.nB, by rfl, qb, od, kvs, rfl, hb, k⟩
/-! ### books -/
def kvW (ys : List Str) (wt : Str → Int) : List (Key × V) := kvF ys fun n => .int (wt n)
structure BkAt (C : Addr) (H : Hp) (p : Addr) (ys : List Str) (hk : Str → Str) (wt : Str → Int) : Prop where
  ex : ∃ (dx qh qw : Addr), H p = some (.ins C dx [("hooks", .ref qh), ("waits", .ref qw)]) ∧ H qh = some (.dK (kvF ys fun n => .str (hk n))) ∧ H qw = some (.dK (kvF ys fun n => .int (wt n)))
theorem BkAt.up {C : Addr} {H H' : Hp} {p : Addr} {ys : List Str} {hk : Str → Str} {wt : Str → Int} (h : BkAt C H p ys hk wt) (s : Same H H') : BkAt C H' p ys hk wt := by
  obtain ⟨dx, qh, qw, h1, h2, h3⟩ := h.ex
  exact ⟨dx, qh, qw, s _ _ h1, s _ _ h2, s _ _ h3⟩
def spBIter (C : Addr) (n : Nat) : Sp := fun vs H Q _ => ∃ (p dx qh qw : Addr) (od : Obj) (kvs : List (Key × V)), vs = [.ref p] ∧ H p = some (.ins C dx [("hooks", .ref qh), ("waits", .ref qw)]) ∧ H qh = some (.frz od (.dK kvs)) ∧ ∀ it, H it = none → n ≤ it → Q (.ref it) (upd H it (Own.KiO qh od it))
theorem ok_biter (T : Txt K mg A) : FnOk P w K mg base CX0 1 A.a_Book___iter__ A.d_Book___iter__ P_Book___iter__ (spBIter A.a_Book base.objs.size) := by
  refine T.f_Book___iter__.ok sc_Book___iter__ (fun vs H Q E h => ?_) (fun cdv A' outer s H vs Q E hr h => ?_)
  · obtain ⟨p, dx, qh, qw, od, kvs, rfl, _⟩ := h
    rfl
  · obtain ⟨p, dx, qh, qw, od, kvs, rfl, hp, hb, k⟩ := h
    refine ⟨_, (pss_one (ps_ret (pe_callB Own.call_iterD (by rfl) T.iter (by decide +kernel) (pa_cons (pe_fld (pv 0) rfl) pa_nil)))), ?_⟩
    exact ⟨_, rfl, p, A.a_Book, dx, _, _, rfl, hp, T.cl_B, T.nBH, by rfl, qh, od, kvs, rfl, hb, k⟩
def spIsWait (K : PySem.W.Frag) : Sp := fun vs H Q _ => ∃ (i : Int), vs = [.int i] ∧ 0 ≤ i ∧ Q (.bl true) H
theorem ok_iswait (T : Txt K mg A) : FnOk P w K mg base CX0 2 A.a_is_wait A.d_is_wait P_is_wait (spIsWait K) := by
  have G_is_integer : FnOk P w K mg base CX0 1 A.a_is_integer A.d_is_integer P_is_integer (spIsInt K) := ok_isint T
  refine T.f_is_wait.ok sc_is_wait (fun vs H Q E h => ?_) (fun cdv A' outer s H vs Q E hr h => ?_)
  · obtain ⟨i, rfl, _⟩ := h
    rfl
  · obtain ⟨i, rfl, h0, k⟩ := h
    refine ⟨_, (pss_one (ps_ret (pe_and (pe_call G_is_integer (hr.mono (by omega)) (by rfl) T.g_is_integer T.f_is_integer.kp T.b_is_integer .nil pass0 (pa_cons (pv 0) pa_nil)) (pe_one (pe_cmpR op_ge (pv 0) pe_int (nomark _)))))), ?_⟩
    refine ⟨_, rfl, .int i, .int i, rfl, .int i, _, rfl, iteT ?_⟩
    refine ⟨_, rfl, _, _, rfl, rfl, ?_⟩
    show Q (.bl (decide (0 ≤ i))) H
    rw [decide_eq_true h0]
    exact k
/-- a row of a book: what it hangs on and the wait, in a tuple -/
def spEntry (K : PySem.W.Frag) : Sp := fun vs H Q _ => ∃ (a d : Addr) (od : Obj) (kvs : List (Key × V)) (ks : List Str) (h : Str) (i : Int), vs = [.ref a, .ref d] ∧ SqT K H a [.str h, .int i] ∧ H d = some (.frz od (.dK kvs)) ∧ kvs.map (·.1) = ks.map Sum.inr ∧ ks.length < 64 ∧ (h = "clock" ∨ h ∈ ks) ∧ 0 ≤ i ∧ ∀ H', Same H H' → Q (.bl true) H'
theorem ok_entry (T : Txt K mg A) : FnOk P w K mg base CX0 3 A.a_is_entry A.d_is_entry P_is_entry (spEntry K) := by
  have G_is_list : FnOk P w K mg base CX0 1 A.a_is_list A.d_is_list P_is_list (spIsList K) := ok_islist T
  have G_is_hook : FnOk P w K mg base CX0 2 A.a_is_hook A.d_is_hook P_is_hook spHook := ok_hook T
  have G_is_wait : FnOk P w K mg base CX0 2 A.a_is_wait A.d_is_wait P_is_wait (spIsWait K) := ok_iswait T
  refine T.f_is_entry.ok sc_is_entry (fun vs H Q E h => ?_) (fun cdv A' outer s H vs Q E hr h => ?_)
  · obtain ⟨a, d, od, kvs, ks, h, i, rfl, _⟩ := h
    rfl
  · obtain ⟨a, d, od, kvs, ks, h, i, rfl, ha, hd, hks, hl, hh, h0, k⟩ := h
    refine ⟨_, (pss_cons (ps_if (PW.pt (pw_or (pt_not (pt_val (pe_call G_is_list (hr.mono (by omega)) (by rfl) T.g_is_list T.f_is_list.kp T.b_is_list .nil pass0 (pa_cons (pv 0) pa_nil)))) (pw_or1 (pt_cmpR op_ne (pe_callB call_len_seq (by rfl) T.len PySem.boot_len (pa_cons (pv 0) pa_nil)) pe_int (nomark _)))))
 (pss_one (ps_ret pe_bl))
 pss_nil)
 (pss_cons (ps_asg (pv 0) (pg_tup (by rfl) (pgs_cons (pg_name (i := 2) sc_is_entry.nd rfl (Or.inl rfl)) (pgs_cons (pg_name (i := 3) sc_is_entry.nd rfl (Or.inl rfl)) pgs_nil))))
 (pss_one (ps_ret (pe_and (pe_call G_is_hook (hr.mono (by omega)) (by rfl) T.g_is_hook T.f_is_hook.kp T.b_is_hook .nil pass0 (pa_cons (pv 2) (pa_cons (pv 1) pa_nil))) (pe_one (pe_call G_is_wait (hr.mono (by omega)) (by rfl) T.g_is_wait T.f_is_wait.kp T.b_is_wait .nil pass0 (pa_cons (pv 3) pa_nil)))))))), ?_⟩
    refine ⟨_, rfl, .ref a, .tuple [.str h, .int i], rfl, .tup ha (.cons (.str h) (.cons (.int i) .nil)), fun H1 s1 => ⟨_, rfl, iteF ?_⟩⟩
    have ha1 := stUp ha s1
    refine ⟨_, rfl, a, _, rfl, .inr ha1, rfl, _, rfl, iteF ?_⟩
    refine ⟨_, rfl, a, _, rfl, ha1, rfl, _, _, rfl, _, _, rfl, rfl, ?_⟩
    refine ⟨_, rfl, _, rfl, h, d, od, kvs, ks, rfl, s1 _ _ hd, hks, hl, hh, fun H2 s2 => ⟨_, rfl, iteT ?_⟩⟩
    exact ⟨_, rfl, i, rfl, h0, k _ (s1.trans s2)⟩
end
end K5
set_option Elab.async false
set_option linter.all false
set_option maxRecDepth 100000
set_option maxHeartbeats 4000000
namespace K5
open PySem L2
local macro_rules | `(tactic| walk_at "rd1") => `(tactic| first
  | refine ⟨_, _, rfl, rfl, ?_⟩
  | refine ⟨_, _, _, _, rfl, rfl, SqL.of (by assumption), rfl, ?_⟩
  | refine ⟨_, _, _, _, rfl, rfl, (by assumption), rfl, ?_⟩
  | refine .inl ⟨_, rfl, ?_⟩
  | refine ⟨_, rfl, ?_⟩
  | refine ⟨(by unfold CMul; omega), ?_⟩
  | refine ⟨(by unfold CPow; omega), ?_⟩
  | refine ⟨(by (try dsimp only); omega), ?_⟩
  | refine ⟨(by unfold CDiv; omega), ?_⟩
  | fail "rd1")
local macro_rules | `(tactic| walk_at "rd") => `(tactic| repeat' (walk_at "rd1"))
section
variable {P : Program} {w : World} {K : PySem.W.Frag} {mg : Str → Option Value} {base : Heap} {A : Ad}

theorem frz_er {H : Hp} {d : Addr} {o : HO} : Same (er H d) (upd H d o) := fun b u e => by rw [upd_ne (er_some e).1]; exact (er_some e).2
theorem unfrz {H H' : Hp} {d : Addr} {u o : HO} (hd : H d = some u) (s : Same (upd H d o) H') : Same H (upd H' d u) := fun b v e => by
  by_cases hb : b = d
  · subst hb; rw [upd_same]; rw [hd] at e; exact e
  · rw [upd_ne hb]; exact s _ _ (by rw [upd_ne hb]; exact e)
def spChkE (K : PySem.W.Frag) : Sp := fun vs H Q _ => ∃ (dd : Addr) (kvs : List (Key × V)) (ns : List Str) (hk : Str → Str) (wt : Str → Int), vs = [.ref dd] ∧ H dd = some (.dK kvs) ∧ Pr2 K H ns (fun n => .str (hk n)) (fun n => .int (wt n)) kvs ∧ ns.Nodup ∧ ns.length < 64 ∧
  (∀ n ∈ ns, Nm n ∧ (hk n = "clock" ∨ hk n ∈ ns) ∧ 0 ≤ wt n) ∧ ∀ H', Same H H' → Q .non H'
theorem ok_chke (T : Txt K mg A) : FnOk P w K mg base CX0 4 A.a_check_entries A.d_check_entries P_check_entries (spChkE K) := by
  have G_is_name : FnOk P w K mg base CX0 1 A.a_is_name A.d_is_name P_is_name spIsName := ok_isname T
  have G_is_entry : FnOk P w K mg base CX0 3 A.a_is_entry A.d_is_entry P_is_entry (spEntry K) := ok_entry T
  refine T.f_check_entries.ok sc_check_entries (fun vs H Q E h => ?_) (fun cdv A' outer s H vs Q E hr h => ?_)
  · obtain ⟨dd, kvs, ns, hk, wt, rfl, _⟩ := h
    rfl
  · obtain ⟨dd, kvs, ns, hk, wt, rfl, hd, hP, nd, hl, hB, k⟩ := h
    refine ⟨_, (pss_one (ps_lock (ps_for PassesOwn.never rfl (pi_keys (pv 0)) (pg_name (i := 1) sc_check_entries.nd rfl (Or.inl rfl))
 (pss_one (ps_if (PW.pt (pw_or (pt_not (pt_val (pe_call G_is_name (hr.mono (by omega)) (by rfl) T.g_is_name T.f_is_name.kp T.b_is_name .nil pass0 (pa_cons (pv 1) pa_nil)))) (pw_or1 (pt_not (pt_val (pe_call G_is_entry (hr.mono (by omega)) (by rfl) T.g_is_entry T.f_is_entry.kp T.b_is_entry .nil pass0 (pa_cons (pe_dget (hu_of hr) (pv 0) (pv 1) (fun _ _ => rfl)) (pa_cons (pv 0) pa_nil))))))))
 (pss_one ps_never)
 pss_nil))))), ?_⟩
    refine ⟨dd, _, hd, trivial, fun od => ?_⟩
    have hPf : Pr2 K (upd H dd (.frz od (.dK kvs))) ns (fun n => .str (hk n)) (fun n => .int (wt n)) kvs := hP.set hd (noTup_dK _)
    refine ⟨_, rfl, dd, od, rfl, .inl ⟨kvs, upd_same, for_it walk_keys (fun i σ' H' => ∃ x, σ' = [some (.ref dd), x] ∧ Same (upd H dd (.frz od (.dK kvs))) H') ⟨none, rfl, Same.refl _⟩ (fun i σ' H' _ ⟨_, _, s⟩ => s _ _ upd_same) ?_ ?_⟩⟩
    · rintro i x σ' H' H'' hi ⟨y, rfl, s1⟩ ⟨rfl, key, v, hkv, rfl⟩
      obtain ⟨hi1, a, rfl, rfl, hq⟩ := hPf.get hkv
      have hm := List.getElem_mem hi1
      obtain ⟨b1, b2, b3⟩ := hB _ hm
      refine ⟨_, rfl, ns[i], rfl, b1, fun H2 s2 => ⟨_, rfl, iteF ?_⟩⟩
      have hd2 : H2 dd = some (.frz od (.dK kvs)) := s2 _ _ (s1 _ _ upd_same)
      obtain ⟨a2, hv, hq2⟩ := hPf.val nd hm
      refine ⟨_, rfl, _, rfl, dd, .ref a2, rfl, .inl ⟨kvs, .inr ns[i], .inr ⟨od, hd2⟩, rfl, hv.symm⟩, _, rfl, a2, dd, od, kvs, ns, hk ns[i], wt ns[i], rfl, stUp hq2 (s1.trans s2), hd2, hP.keys, hl, b2, b3, fun H3 s3 => ⟨_, rfl, iteF ?_⟩⟩
      exact ⟨_, rfl, (s1.trans s2).trans s3⟩
    · rintro σ' H' ⟨x, rfl, s1⟩
      exact ⟨s1 _ _ upd_same, k _ (unfrz hd s1)⟩
def spBInit (K : PySem.W.Frag) (C : Addr) : Sp := fun vs H Q _ => ∃ (p dx dd : Addr) (kvs : List (Key × V)) (ns : List Str) (hk : Str → Str) (wt : Str → Int) (rk : Str → Nat), vs = [.ref p, .ref dd] ∧ H p = some (.ins C dx []) ∧ H dd = some (.dK kvs) ∧
  Pr2 K H ns (fun n => .str (hk n)) (fun n => .int (wt n)) kvs ∧ ROk rk (rowsF ns hk) ∧ (∀ n ∈ ns, 0 ≤ wt n) ∧ ∀ (H' : Hp) (ys : List Str), BkAt C H' p ys hk wt → ys.Perm ns → PyProof.Rows.sortedS ys = true → Same (er H p) (er H' p) → Q .non H'
theorem fld2 (x y : V) : putF "waits" y (putF "hooks" x []) = ([("hooks", x), ("waits", y)] : List (Str × V)) := by
  show (if ("hooks" : Str) = "waits" then _ else _) = _
  rw [if_neg (by decide +kernel)]; rfl
theorem ok_binit (T : Txt K mg A) : FnOk P w K mg base CX0 5 A.a_Book___init__ A.d_Book___init__ P_Book___init__ (spBInit K A.a_Book) := by
  have G_check_entries : FnOk P w K mg base CX0 4 A.a_check_entries A.d_check_entries P_check_entries (spChkE K) := ok_chke T
  have G_check_rounds : FnOk P w K mg base CX0 2 A.a_check_rounds A.d_check_rounds P_check_rounds spRounds := ok_rounds T
  refine T.f_Book___init__.ok sc_Book___init__ (fun vs H Q E h => ?_) (fun cdv A' outer s H vs Q E hr h => ?_)
  · obtain ⟨p, dx, dd, kvs, ns, hk, wt, rk, rfl, _⟩ := h
    rfl
  · obtain ⟨p, dx, dd, kvs, ns, hk, wt, rk, rfl, hp, hd, hP, hO, hW, k⟩ := h
    have kN : ns.Nodup := by have := hO.nd; rwa [ksR_F] at this
    have hl : ns.length < 64 := by have := hO.len; rwa [← ksR_len, ksR_F] at this
    have hB : ∀ n ∈ ns, Nm n ∧ (hk n = "clock" ∨ hk n ∈ ns) ∧ 0 ≤ wt n := fun n m => ⟨(hO.nm n (by rw [ksR_F]; exact m)).1, (hO.acy n _ (mem_F m)).imp_right fun e => by have := e.1; rwa [ksR_F] at this, hW n m⟩
    refine ⟨_, (pss_cons (ps_expr (pe_call G_check_entries (hr.mono (by omega)) (by rfl) T.g_check_entries T.f_check_entries.kp T.b_check_entries .nil pass0 (pa_cons (pv 1) pa_nil)))
 (pss_cons (ps_expr (pe_call G_check_rounds (hr.mono (by omega)) (by rfl) T.g_check_rounds T.f_check_rounds.kp T.b_check_rounds .nil pass0 (pa_cons (pe_lock (pe_dc (own := [("name", 2)]) (g := gName 2) (by rfl) sc_Book___init__.nd (pi_keys (pv 1)) (blkOk_by (N := N_Book___init__) (sc := defScope s_Book___init__) (by decide +kernel)) (fun _ _ _ _ _ => pg_name (i := 2) sc_Book___init__.nd rfl (Or.inl rfl)) (fun _ _ _ _ _ => pts_nil) (fun _ _ _ _ _ => (pv 2)) (fun _ _ _ _ _ => (pe_ix (Own.ixTupOf (K := K) rfl) (pe_dget (hu_of hr) (pv 1) (pv 2) (fun _ _ => rfl)) pe_int (fun _ _ => rfl))))) pa_nil)))
 (pss_cons (ps_fld (pv 0) (pe_dc (own := [("name", 2)]) (g := gName 2) (by rfl) sc_Book___init__.nd (pi_list (pe_callB (call_sortedD rfl) (by rfl) T.sorted (by decide +kernel) (pa_cons (pv 1) pa_nil))) (blkOk_by (N := N_Book___init__) (sc := defScope s_Book___init__) (by decide +kernel)) (fun _ _ _ _ _ => pg_name (i := 2) sc_Book___init__.nd rfl (Or.inl rfl)) (fun _ _ _ _ _ => pts_nil) (fun _ _ _ _ _ => (pv 2)) (fun _ _ _ _ _ => (pe_ix (Own.ixTupOf (K := K) rfl) (pe_dget (hu_of hr) (pv 1) (pv 2) (fun _ _ => rfl)) pe_int (fun _ _ => rfl)))) rfl)
 (pss_one (ps_fld (pv 0) (pe_lock (pe_dc (own := [("name", 2)]) (g := gName 2) (by rfl) sc_Book___init__.nd (pi_keys (pe_fld (pv 0) rfl)) (blkOk_by (N := N_Book___init__) (sc := defScope s_Book___init__) (by decide +kernel)) (fun _ _ _ _ _ => pg_name (i := 2) sc_Book___init__.nd rfl (Or.inl rfl)) (fun _ _ _ _ _ => pts_nil) (fun _ _ _ _ _ => (pv 2)) (fun _ _ _ _ _ => (pe_ix (Own.ixTupOf (K := K) rfl) (pe_dget (hu_of hr) (pv 1) (pv 2) (fun _ _ => rfl)) pe_int (fun _ _ => rfl))))) rfl))))), ?_⟩
    have npd : dd ≠ p := ne_of hd hp (fun z => nomatch z)
    refine ⟨_, rfl, dd, kvs, ns, hk, wt, rfl, hd, hP, kN, hl, hB, fun H1 s1 => ?_⟩
    have hd1 := s1 _ _ hd
    have hP1 := hP.up s1
    -- the hooks for the rounds
    refine ⟨dd, _, hd1, trivial, fun od => ?_⟩
    have hPf : Pr2 K (upd H1 dd (.frz od (.dK kvs))) ns (fun n => .str (hk n)) (fun n => .int (wt n)) kvs := hP1.set hd1 (noTup_dK _)
    refine ⟨_, rfl, dd, od, rfl, .inl ⟨kvs, upd_same, fun D hD => fillD walk_keys (fun i H' => Same (upd H1 dd (.frz od (.dK kvs))) H' ∧ H' D = some (.dK (kvF (ns.take i) fun n => .str (hk n)))) ⟨Same.new hD, upd_same⟩ (fun i H' _ h => h.1 _ _ upd_same) ?_ (fun H2 h2 => ?_)⟩⟩
    · rintro i x H' H'' hi ⟨s2, hD2⟩ ⟨rfl, key, v, hkv, rfl⟩
      obtain ⟨hi1, a, rfl, rfl, hq⟩ := hPf.get hkv
      have hm := List.getElem_mem hi1
      obtain ⟨a2, hv, hq2⟩ := hPf.val kN hm
      refine ⟨rfl, _, rfl, _, rfl, _, rfl, dd, .ref a2, rfl, .inl ⟨kvs, .inr ns[i], .inr ⟨od, s2 _ _ upd_same⟩, rfl, hv.symm⟩, _, _, _, _, rfl, rfl, stUp hq2 s2, rfl, _, .inr ns[i], rfl, hD2, ?_, ?_, ?_⟩
      · rw [kvF_len, List.length_take]; exact Nat.lt_of_le_of_lt (show min i _ ≤ 64 by omega) (by decide)
      · exact fun c u e => by rw [upd_ne (ne_of_none e hD)]; exact s2 _ _ e
      · rw [put_new _ _ _ (by
          rw [kvF_keys]
          intro m
          obtain ⟨z, hz, ez⟩ := List.mem_map.mp m
          exact not_in_take kN hi1 (by rw [← Sum.inr.inj ez]; exact hz)), upd_same, List.take_succ, List.getElem?_eq_getElem hi1]
        exact congrArg (fun z => some (HO.dK z)) (kvF_snoc (ns.take i) ns[i] fun n => .str (hk n)).symm
    obtain ⟨s2, hD2⟩ := h2
    rw [hP.len, List.take_length] at hD2
    have nDd : D ≠ dd := fun e => by rw [e, upd_same] at hD; cases hD
    refine ⟨s2 _ _ upd_same, ?_⟩
    have S2 : Same H1 (upd H2 dd (.dK kvs)) := unfrz hd1 s2
    have hD3 : upd H2 dd (.dK kvs) D = some (.dK (kvR (rowsF ns hk))) := by rw [upd_ne nDd, kvR_F]; exact hD2
    generalize upd H2 dd (.dK kvs) = H3 at S2 hD3 ⊢
    have S3 := s1.trans S2
    clear s2 hPf hD2 hD hP1 hd1
    refine ⟨D, rk, rowsF ns hk, rfl, hD3, hO, fun H4 s4 => ?_⟩
    have S4 := S3.trans s4
    clear hD3 S3 S2 s4 s1
    have hd4 := S4 _ _ hd
    have hP4 := hP.up S4
    -- self.hooks
    refine ⟨_, rfl, dd, kvs, ns, rfl, .inl hd4, hP.keys, hl, fun ys q hperm hsort hq => ?_⟩
    have yN : ys.Nodup := hperm.nodup_iff.mpr kN
    have yl : ys.length < 64 := by rw [hperm.length_eq]; exact hl
    refine ⟨q, rfl, ⟨_, SqL.of upd_same⟩, fun D hD => fillD walk_list (fun i H' => Same (upd H4 q (.lst (ys.map V.str))) H' ∧ H' D = some (.dK (kvF (ys.take i) fun n => .str (hk n)))) ⟨Same.new hD, upd_same⟩ (fun i H' _ h => SqL.of (h.1 _ _ upd_same)) ?_ (fun H5 h5 => ?_)⟩
    · rintro i x H' H'' hi1 ⟨s5, hD5⟩ ⟨rfl, hx⟩
      obtain ⟨hi1, rfl⟩ := str_at hx
      have hm : ys[i] ∈ ns := hperm.mem_iff.mp (List.getElem_mem hi1)
      have S5 : Same H4 H'' := (Same.new hq).trans s5
      obtain ⟨a2, hv, hq2⟩ := hP4.val kN hm
      refine ⟨rfl, _, rfl, _, rfl, _, rfl, dd, .ref a2, rfl, .inl ⟨kvs, .inr ys[i], .inl (S5 _ _ hd4), rfl, hv.symm⟩, _, _, _, _, rfl, rfl, stUp hq2 S5, rfl, _, .inr ys[i], rfl, hD5, ?_, ?_, ?_⟩
      · rw [kvF_len, List.length_take]; exact Nat.lt_of_le_of_lt (show min i _ ≤ 64 by omega) (by decide)
      · exact fun c u e => by rw [upd_ne (ne_of_none e hD)]; exact s5 _ _ e
      · rw [put_new _ _ _ (by
          rw [kvF_keys]
          intro m
          obtain ⟨z, hz, ez⟩ := List.mem_map.mp m
          exact not_in_take yN hi1 (by rw [← Sum.inr.inj ez]; exact hz)), upd_same, List.take_succ, List.getElem?_eq_getElem hi1]
        exact congrArg (fun z => some (HO.dK z)) (kvF_snoc (ys.take i) ys[i] fun n => .str (hk n)).symm
    obtain ⟨s5, hD5⟩ := h5
    rw [List.length_map, List.take_length] at hD5
    have S5 : Same H4 H5 := (Same.new hq).trans s5
    have hp5 := S5 _ _ (S4 _ _ hp)
    have nDp : D ≠ p := fun e => by rw [e, hp5] at hD5; cases hD5
    have nDd : D ≠ dd := fun e => by rw [e, Same.new hq _ _ hd4] at hD; cases hD
    refine ⟨_, rfl, p, A.a_Book, dx, _, rfl, hp5, T.cl_B, T.nBH, by decide, ?_⟩
    have hd5 := S5 _ _ hd4
    have hP5 := hP4.up S5
    have E5 : Same (er H p) (er (upd H5 p (.ins A.a_Book dx (putF "hooks" (.ref D) []))) p) := by rw [er_upd]; exact er_mono (S4.trans S5)
    have hD6 : upd H5 p (.ins A.a_Book dx (putF "hooks" (.ref D) [])) D = some (.dK (kvF ys fun n => .str (hk n))) := by rw [upd_ne nDp]; exact hD5
    have hd6 : upd H5 p (.ins A.a_Book dx (putF "hooks" (.ref D) [])) dd = some (.dK kvs) := by rw [upd_ne npd]; exact hd5
    have hP6 : Pr2 K (upd H5 p (.ins A.a_Book dx (putF "hooks" (.ref D) []))) ns (fun n => .str (hk n)) (fun n => .int (wt n)) kvs := hP5.set hp5 (noTup_ins _ _ _)
    have hp6 : upd H5 p (.ins A.a_Book dx (putF "hooks" (.ref D) [])) p = some (.ins A.a_Book dx (putF "hooks" (.ref D) [])) := upd_same
    generalize upd H5 p (.ins A.a_Book dx (putF "hooks" (.ref D) [])) = H6 at E5 hD6 hd6 hP6 hp6 ⊢
    clear hd5 hP5 hp5 S5 s5 hD5 hD hq hP4 hd4
    -- self.waits
    refine ⟨D, _, hD6, trivial, fun od => ?_⟩
    have npD : p ≠ D := fun e => nDp e.symm
    have hp7 : upd H6 D (.frz od (.dK (kvF ys fun n => .str (hk n)))) p = some (.ins A.a_Book dx (putF "hooks" (.ref D) [])) := by rw [upd_ne npD]; exact hp6
    have hd7 : upd H6 D (.frz od (.dK (kvF ys fun n => .str (hk n)))) dd = some (.dK kvs) := by rw [upd_ne nDd.symm]; exact hd6
    have hP7 : Pr2 K (upd H6 D (.frz od (.dK (kvF ys fun n => .str (hk n))))) ns (fun n => .str (hk n)) (fun n => .int (wt n)) kvs := hP6.set hD6 (noTup_dK _)
    refine ⟨_, rfl, p, A.a_Book, dx, _, _, rfl, hp7, T.cl_B, T.nBH, rfl, D, od, rfl, .inl ⟨_, upd_same, fun D2 hD2 => fillD walk_keys (fun i H' => Same (upd H6 D (.frz od (.dK (kvF ys fun n => .str (hk n))))) H' ∧ H' D2 = some (.dK (kvF (ys.take i) fun n => .int (wt n)))) ⟨Same.new hD2, upd_same⟩ (fun i H' _ h => h.1 _ _ upd_same) ?_ (fun H8 h8 => ?_)⟩⟩
    · rintro i x H' H'' hi ⟨s8, hD8⟩ ⟨rfl, key, v, hkv, rfl⟩
      obtain ⟨hi1, rfl, rfl⟩ := kvF_at hkv
      have hm : ys[i] ∈ ns := hperm.mem_iff.mp (List.getElem_mem hi1)
      obtain ⟨a2, hv, hq2⟩ := hP7.val kN hm
      refine ⟨rfl, _, rfl, _, rfl, _, rfl, dd, .ref a2, rfl, .inl ⟨kvs, .inr ys[i], .inl (s8 _ _ hd7), rfl, hv.symm⟩, _, _, _, _, rfl, rfl, stUp hq2 s8, rfl, _, .inr ys[i], rfl, hD8, ?_, ?_, ?_⟩
      · rw [kvF_len, List.length_take]; exact Nat.lt_of_le_of_lt (show min i _ ≤ 64 by omega) (by decide)
      · exact fun c u e => by rw [upd_ne (ne_of_none e hD2)]; exact s8 _ _ e
      · rw [put_new _ _ _ (by
          rw [kvF_keys]
          intro m
          obtain ⟨z, hz, ez⟩ := List.mem_map.mp m
          exact not_in_take yN hi1 (by rw [← Sum.inr.inj ez]; exact hz)), upd_same, List.take_succ, List.getElem?_eq_getElem hi1]
        exact congrArg (fun z => some (HO.dK z)) (kvF_snoc (ys.take i) ys[i] fun n => .int (wt n)).symm
    obtain ⟨s8, hD8⟩ := h8
    rw [kvF_len, List.take_length] at hD8
    have nDD : D2 ≠ D := fun e => by rw [e, upd_same] at hD2; cases hD2
    refine ⟨s8 _ _ upd_same, ?_⟩
    have S8 : Same H6 (upd H8 D (.dK (kvF ys fun n => .str (hk n)))) := unfrz hD6 s8
    have hD9 : upd H8 D (.dK (kvF ys fun n => .str (hk n))) D2 = some (.dK (kvF ys fun n => .int (wt n))) := by rw [upd_ne nDD]; exact hD8
    generalize upd H8 D (.dK (kvF ys fun n => .str (hk n))) = H9 at S8 hD9 ⊢
    have hp9 := S8 _ _ hp6
    have nD2p : D2 ≠ p := fun e => by rw [e, hp9] at hD9; cases hD9
    refine ⟨_, rfl, p, A.a_Book, dx, _, rfl, hp9, T.cl_B, T.nBW, Nat.lt_of_le_of_lt (putF_len _ _ _) (by decide), ?_⟩
    refine k _ ys ⟨dx, D, D2, by rw [upd_same, fld2], by rw [upd_ne nDp]; exact S8 _ _ hD6, by rw [upd_ne nD2p]; exact hD9⟩ hperm hsort ?_
    rw [er_upd]
    exact E5.trans (er_mono S8)
end
end K5
set_option Elab.async false
set_option linter.all false
set_option maxRecDepth 100000
set_option maxHeartbeats 4000000
namespace K5
open PySem L2
local macro_rules | `(tactic| walk_at "rd1") => `(tactic| first
  | refine ⟨_, _, rfl, rfl, ?_⟩
  | refine ⟨_, _, _, _, rfl, rfl, SqL.of (by assumption), rfl, ?_⟩
  | refine ⟨_, _, _, _, rfl, rfl, (by assumption), rfl, ?_⟩
  | refine .inl ⟨_, rfl, ?_⟩
  | refine ⟨_, rfl, ?_⟩
  | refine ⟨(by unfold CMul; omega), ?_⟩
  | refine ⟨(by unfold CPow; omega), ?_⟩
  | refine ⟨(by (try dsimp only); omega), ?_⟩
  | refine ⟨(by unfold CDiv; omega), ?_⟩
  | fail "rd1")
local macro_rules | `(tactic| walk_at "rd") => `(tactic| repeat' (walk_at "rd1"))
section
variable {P : Program} {w : World} {K : PySem.W.Frag} {mg : Str → Option Value} {base : Heap} {A : Ad}

/-! ### asked of a book -/
def spChkDish (K : PySem.W.Frag) : Sp := fun vs H Q _ => ∃ (n : Str) (dd : Addr) (kvs : List (Key × V)), vs = [.str n, .ref dd] ∧ Rd H dd (.dK kvs) ∧ (valV kvs (.inr n)).isSome = true ∧ Q .non H
theorem ok_chkdish (T : Txt K mg A) : FnOk P w K mg base CX0 2 A.a_check_dish A.d_check_dish P_check_dish (spChkDish K) := by
  have G_is_dish : FnOk P w K mg base CX0 1 A.a_is_dish A.d_is_dish P_is_dish (spIsDish K) := ok_isdish T
  refine T.f_check_dish.ok sc_check_dish (fun vs H Q E h => ?_) (fun cdv A' outer s H vs Q E hr h => ?_)
  · obtain ⟨n, dd, kvs, rfl, _⟩ := h
    rfl
  · obtain ⟨n, dd, kvs, rfl, hd, hs, k⟩ := h
    refine ⟨_, (pss_one (ps_if (pt_not (pt_val (pe_call G_is_dish (hr.mono (by omega)) (by rfl) T.g_is_dish T.f_is_dish.kp T.b_is_dish .nil pass0 (pa_cons (pv 0) (pa_cons (pv 1) pa_nil)))))
 (pss_one ps_never)
 pss_nil)), ?_⟩
    refine ⟨_, rfl, _, rfl, .str n, dd, kvs, rfl, hd, .inl ⟨n, rfl, _, rfl, ?_⟩⟩
    rw [hs]
    exact iteF k
def spBHang (K : PySem.W.Frag) (C : Addr) (CH : Addr) : Sp := fun vs H Q _ => ∃ (p : Addr) (ys : List Str) (hk : Str → Str) (wt : Str → Int) (rk : Str → Nat), vs = [.ref p] ∧ BkAt C H p ys hk wt ∧ ROk rk (rowsF ys hk) ∧ PyProof.Rows.sortedS ys = true ∧
  ∀ q H' d, Same H H' → HgAt CH H' q d (rowsF ys hk) → Q (.ref q) H'
theorem asc_same {ys : List Str} {hk : Str → Str} {rs : Rows} (sy : PyProof.Rows.sortedS ys = true) (a : Asc (rowsF ys hk) rs) : rs = rowsF ys hk := by
  have p : (ksR rs).Perm ys := by have := a.keys; rwa [ksR_F] at this
  have e : ksR rs = ys := p.eq_of_pairwise (fun _ _ _ _ a b => sle_anti a b) (sle_sorted a.asc) (sle_sorted sy)
  have key : ∀ l : Rows, (∀ k h, (k, h) ∈ l → (k, h) ∈ rowsF ys hk) → l = rowsF (ksR l) hk := fun l => by
    induction l with
    | nil => intro _; rfl
    | cons r l ih =>
      intro hm
      have e := ih fun k h m => hm k h (List.mem_cons_of_mem _ m)
      have m := of_mem_F (hm r.1 r.2 (List.mem_cons_self ..))
      show r :: l = (r.1, hk r.1) :: rowsF (ksR l) hk
      rw [← e, ← m.2]
  have := key rs a.mem
  rwa [e] at this
theorem ok_bhang (T : Txt K mg A) : FnOk P w K mg base CX0 6 A.a_Book_hanging A.d_Book_hanging P_Book_hanging (spBHang K A.a_Book A.a_Hanging) := by
  have G_Hanging___init__ : FnOk P w K mg base CX0 4 A.a_Hanging___init__ A.d_Hanging___init__ P_Hanging___init__ (spHInit A.a_Hanging) := ok_hinit T
  refine T.f_Book_hanging.ok sc_Book_hanging (fun vs H Q E h => ?_) (fun cdv A' outer s H vs Q E hr h => ?_)
  · obtain ⟨p, ys, hk, wt, rk, rfl, _⟩ := h
    rfl
  · obtain ⟨p, ys, hk, wt, rk, rfl, B, hO, hs, k⟩ := h
    obtain ⟨dx, qh, qw, hp, hh, hw⟩ := B.ex
    refine ⟨_, (pss_one (ps_ret (pe_make T.mkH G_Hanging___init__ (hr.mono (by omega)) (by rfl) T.g_Hanging T.b_Hanging___init__ .nil pass0 (pa_cons (pe_fld (pv 0) rfl) pa_nil)))), ?_⟩
    refine ⟨_, rfl, p, A.a_Book, dx, _, _, rfl, hp, T.cl_B, T.nBH, rfl, fun q dq nq ndq ndp => ?_⟩
    have sM : Same H (upd (upd H dq (.own q)) q (.ins A.a_Hanging dq [])) := fun b u e => by rw [upd_ne (ne_of_none e nq), upd_ne (ne_of_none e ndq)]; exact e
    refine ⟨q, dq, qh, rk, rowsF ys hk, rfl, upd_same, by rw [kvR_F]; exact sM _ _ hh, hO, fun H5 d rs hg nd asc sS => ⟨rfl, ?_⟩⟩
    rw [asc_same hs asc] at hg
    exact k q H5 d (fun b u e => (er_same _ _) _ _ (sS _ _ (er_of (ne_of_none e nq) (sM _ _ e)))) hg
def spAdded (C : Addr) : Sp := fun vs H Q _ => ∃ (p : Addr) (ys : List Str) (hk : Str → Str) (wt : Str → Int) (n : Str) (ws : List Str), vs = [.ref p, .str n] ∧ BkAt C H p ys hk wt ∧ ys.Nodup ∧ ys.length < 64 ∧ n ∈ ys ∧ Way (rowsF ys hk) n ws ∧ (∀ w ∈ ws, w ∈ ys) ∧ ∀ H', Same H H' → Q (.int (wt n + (ws.reverse.map wt).sum)) H'
theorem ok_added (T : Txt K mg A) : FnOk P w K mg base CX0 3 A.a_Book_added A.d_Book_added P_Book_added (spAdded A.a_Book) := by
  have G_check_dish : FnOk P w K mg base CX0 2 A.a_check_dish A.d_check_dish P_check_dish (spChkDish K) := ok_chkdish T
  have G_way_up : FnOk P w K mg base CX0 1 A.a_way_up A.d_way_up P_way_up spWayUp := ok_wayup T
  refine T.f_Book_added.ok sc_Book_added (fun vs H Q E h => ?_) (fun cdv A' outer s H vs Q E hr h => ?_)
  · obtain ⟨p, ys, hk, wt, n, ws, rfl, _⟩ := h
    rfl
  · obtain ⟨p, ys, hk, wt, n, ws, rfl, B, nd, hl, hm, hW, hws, k⟩ := h
    obtain ⟨dx, qh, qw, hp, hh, hw⟩ := B.ex
    refine ⟨_, (pss_cons (ps_expr (pe_call G_check_dish (hr.mono (by omega)) (by rfl) T.g_check_dish T.f_check_dish.kp T.b_check_dish .nil pass0 (pa_cons (pv 1) (pa_cons (pe_fld (pv 0) rfl) pa_nil))))
 (pss_one (ps_ret (pe_op op_add (pe_dget (hu_of hr) (pe_fld (pv 0) rfl) (pv 1) (fun _ _ => rfl)) (pe_callB (cr_sum rfl) (by rfl) T.sum (by decide +kernel) (pa_cons (pe_lc (own := [("dish", 2)]) (g := gName 2) (by rfl) sc_Book_added.nd (pi_list (pe_call G_way_up (hr.mono (by omega)) (by rfl) T.g_way_up T.f_way_up.kp T.b_way_up .nil pass0 (pa_cons (pv 1) (pa_cons (pe_fld (pv 0) rfl) pa_nil)))) (blkOk_by (N := N_Book_added) (sc := defScope s_Book_added) (by decide +kernel)) (fun _ _ _ _ _ => pg_name (i := 2) sc_Book_added.nd rfl (Or.inl rfl)) (fun _ _ _ _ _ => pts_nil) (fun _ _ _ _ _ => (pe_dget (hu_of hr) (Own.fldOf (K := K) rfl (pv 0) rfl) (pv 2) (fun _ _ => rfl)))) pa_nil)))))), ?_⟩
    refine ⟨_, rfl, _, rfl, p, A.a_Book, dx, _, _, rfl, hp, T.cl_B, T.nBH, rfl, n, qh, _, rfl, .inl hh, by rw [kvF_val nd hm]; rfl, ?_⟩
    refine ⟨_, rfl, p, A.a_Book, dx, _, _, rfl, hp, T.cl_B, T.nBW, rfl, _, rfl, qw, _, rfl, .inl ⟨_, .inr n, .inl hw, rfl, (kvF_val nd hm).symm⟩, ?_⟩
    refine ⟨_, rfl, _, rfl, p, A.a_Book, dx, _, _, rfl, hp, T.cl_B, T.nBH, rfl, qh, rowsF ys hk, n, ws, rfl, by rw [kvR_F]; exact hh, by rw [ksR_F]; exact nd, hW, fun l H1 s1 nl hl1 => ?_⟩
    have wl : ws.length ≤ 64 := hW.choose_spec.2.2
    refine ⟨l, rfl, ⟨_, SqL.of hl1⟩, fun D hD => lc_it walk_list (fun i H' => Same H1 H' ∧ H' D = some (.lst (((ws.reverse.take i).map wt).map V.int))) ⟨Same.new hD, upd_same⟩ (fun i H' _ z => SqL.of (z.1 _ _ hl1)) ?_ (fun H2 z => ?_)⟩
    · rintro i x H' H'' hi ⟨s2, hD2⟩ ⟨rfl, hx⟩
      obtain ⟨hi, rfl⟩ := str_at hx
      have hm2 : ws.reverse[i] ∈ ys := hws _ (List.mem_reverse.mp (List.getElem_mem hi))
      have S2 := s1.trans s2
      refine ⟨rfl, _, rfl, p, A.a_Book, dx, _, _, rfl, S2 _ _ hp, T.cl_B, T.nBW, rfl, _, rfl, qw, _, rfl, .inl ⟨_, .inr ws.reverse[i], .inl (S2 _ _ hw), rfl, (kvF_val nd hm2).symm⟩, _, hD2, ?_, ?_, ?_⟩
      · rw [List.length_map, List.length_map, List.length_take, List.length_reverse]; exact Nat.lt_of_le_of_lt (show min i _ ≤ 64 by omega) (by decide)
      · exact fun b u e => by rw [upd_ne (ne_of_none e hD)]; exact s2 _ _ e
      · rw [upd_same, take_map wt hi, List.map_append]; rfl
    · obtain ⟨s2, hD2⟩ := z
      rw [List.length_map, List.take_length] at hD2
      exact ⟨D, _, rfl, SqL.of hD2, _, _, rfl, rfl, k _ (s1.trans s2)⟩
end
end K5
set_option Elab.async false
set_option linter.all false
set_option maxRecDepth 100000
set_option maxHeartbeats 4000000
namespace K5
open PySem L2
local macro_rules | `(tactic| walk_at "rd1") => `(tactic| first
  | refine ⟨_, _, rfl, rfl, ?_⟩
  | refine ⟨_, _, _, _, rfl, rfl, SqL.of (by assumption), rfl, ?_⟩
  | refine ⟨_, _, _, _, rfl, rfl, (by assumption), rfl, ?_⟩
  | refine .inl ⟨_, rfl, ?_⟩
  | refine ⟨_, rfl, ?_⟩
  | refine ⟨(by unfold CMul; omega), ?_⟩
  | refine ⟨(by unfold CPow; omega), ?_⟩
  | refine ⟨(by (try dsimp only); omega), ?_⟩
  | refine ⟨(by unfold CDiv; omega), ?_⟩
  | fail "rd1")
local macro_rules | `(tactic| walk_at "rd") => `(tactic| repeat' (walk_at "rd1"))
section
variable {P : Program} {w : World} {K : PySem.W.Frag} {mg : Str → Option Value} {base : Heap} {A : Ad}

theorem eqv_strs_refl (ss : List Str) : PyData.eqv (.list (ss.map PyData.str)) (.list (ss.map PyData.str)) = true := by
  have h : ∀ ss : List Str, PyData.eqvAll (ss.map PyData.str) (ss.map PyData.str) = true := fun ss => by
    induction ss with
    | nil => simp [PyData.eqvAll]
    | cons s ss ih => simp [PyData.eqvAll, PyData.eqv, ih]
  simp [PyData.eqv, h]
/-! ### moments -/
inductive Mo where
  | clock : Mo
  | edge (done : Bool) (n : Str) : Mo
def Mo.d : Mo → PyData
  | .clock => .str "clock"
  | .edge b n => .tuple [.str (if b then "done" else "start"), .str n]
def Mo.on (ys : List Str) : Mo → Prop
  | .clock => True
  | .edge _ n => n ∈ ys
def Mo.isC : Mo → Bool
  | .clock => true
  | .edge _ _ => false
def wayM (W : Str → List Str) : Mo → List Str
  | .clock => []
  | .edge b n => if b then W n ++ [n] else W n
def sumM (W : Str → List Str) (wt : Str → Int) : Mo → Int
  | .clock => 0
  | .edge _ n => wt n + ((W n).map wt).sum
def sprM (W : Str → List Str) (lo hi : Str → Int) (a b : Mo) : Int :=
  (((wayM W b).filter fun n => decide (n ∉ wayM W a)).map hi).sum - (((wayM W a).filter fun n => decide (n ∉ wayM W b)).map lo).sum
def mbM (W : Str → List Str) (wt lo hi : Str → Int) (a b : Mo) : Int := sumM W wt b - sumM W wt a + sprM W lo hi a b
theorem mo_of {ns : List Str} {d : PyData} (m : MomN ns d) : ∃ o : Mo, d = o.d ∧ o.on ns := by
  cases m with
  | clock => exact ⟨.clock, rfl, trivial⟩
  | @edge e n he hn =>
    rcases he with e1 | e1
    · subst e1; exact ⟨.edge false n, rfl, hn⟩
    · subst e1; exact ⟨.edge true n, rfl, hn⟩
theorem mo_mom {ns : List Str} {kvs : List (Key × V)} {o : Mo} (h : o.on ns) (hk : ∀ n ∈ ns, (valV kvs (.inr n)).isSome = true ∧ PyData.strOk n = true) : Mom kvs o.d := by
  cases o with
  | clock => exact .clock
  | edge b n =>
    refine .edge ?_ (hk n h).1 (hk n h).2
    cases b
    · exact .inl rfl
    · exact .inr rfl
theorem edge_shaped {b : Bool} {n : Str} (ok : PyData.strOk n = true) : SeqAt.shaped (Mo.edge b n).d = true := by
  have he' : PyData.strOk (if b = true then "done" else "start" : Str) = true := by cases b <;> decide +kernel
  show SeqAt.shaped (.tuple [.str _, .str n]) = true
  simp [SeqAt.shaped, PyData.canLay0, PyData.canLayAll0, PyData.depth, PyData.depthAll, he', ok]
theorem mo_shaped {ys : List Str} {o : Mo} (h : o.on ys) (ok : ∀ n ∈ ys, PyData.strOk n = true) : SeqAt.shaped o.d = true := by
  cases o with
  | clock => decide +kernel
  | edge b n => exact edge_shaped (ok n h)
theorem mo_eqv (o : Mo) : PyData.eqv o.d (.str "clock") = o.isC := by
  cases o with
  | clock => decide +kernel
  | edge b n => rfl
/-- the data of a moment's edge -/
theorem dp_edge {H : Hp} {v : V} {b : Bool} {n : Str} (h : Dp K H v (Mo.edge b n).d) : ∃ a : Addr, v = .ref a ∧ SqT K H a [.str (if b then "done" else "start"), .str n] := by
  cases h with
  | tup hq hA =>
    cases hA with
    | cons h1 hA =>
      cases h1
      cases hA with
      | cons h2 hA =>
        cases h2
        cases hA
        exact ⟨_, rfl, hq⟩
theorem keysV {kvs : List (Key × V)} {ns : List Str} (h : kvs.map (·.1) = ns.map Sum.inr) : (kvs.map fun kv => kV kv.1) = ns.map V.str := by
  have : (kvs.map fun kv => kV kv.1) = (kvs.map (·.1)).map kV := by rw [List.map_map]; rfl
  rw [this, h, List.map_map]; rfl
def spSameD (K : PySem.W.Frag) (CM CB : Addr) : Sp := fun vs H Q _ => ∃ (p b : Addr) (ys : List Str) (lo hi : Str → Int) (ds : List PyData) (hk : Str → Str) (wt : Str → Int), vs = [.ref p, .ref b] ∧ MlAt K CM H p ys lo hi ds ∧ BkAt CB H b ys hk wt ∧ ys.length < 64 ∧ (∀ n ∈ ys, PyData.strOk n = true) ∧ ∀ H', Same H H' → Q .non H'
theorem ok_chksame (T : Txt K mg A) : FnOk P w K mg base CX0 6 A.a_check_same A.d_check_same P_check_same (spSameD K A.a_Meal A.a_Book) := by
  refine T.f_check_same.ok sc_check_same (fun vs H Q E h => ?_) (fun cdv A' outer s H vs Q E hr h => ?_)
  · obtain ⟨p, b, ys, lo, hi, ds, hk, wt, rfl, _⟩ := h
    rfl
  · obtain ⟨p, b, ys, lo, hi, ds, hk, wt, rfl, M, B, hl, ok, k⟩ := h
    obtain ⟨dx, qb, qw, qp, kvs, ws, hp, hb, hP, hw, hA⟩ := M.ex
    obtain ⟨dy, qh, qx, hp2, hh, hx⟩ := B.ex
    refine ⟨_, (pss_one (ps_if (pt_cmpR (op_neD hr.units) (pe_lock (pe_callTy (Own.call_listIL (fun _ => ok_miter T) T.b_Meal___iter__ pass0 rfl (hr.mono (by omega)) (hr.mono (by omega)) T.m_iterM.1 T.m_iterM.2 (ok_mlen T) T.b_Meal___len__ T.m_lenM.1 T.m_lenM.2) (by rfl) T.list (by decide +kernel) (pa_cons (pv 0) pa_nil))) (pe_lock (pe_callTy (Own.call_listIt (fun _ => ok_biter T) T.b_Book___iter__ pass0 rfl (hr.mono (by omega)) T.m_iterB.1 T.m_iterB.2 T.nLenB T.nHintB) (by rfl) T.list (by decide +kernel) (pa_cons (pv 1) pa_nil))) (nomark _))
 (pss_one ps_never)
 pss_nil)), ?_⟩
    -- list(meal)
    refine ⟨qb, _, hb, trivial, fun od => ?_⟩
    have npq : p ≠ qb := fun e => by rw [e, hb] at hp; cases hp
    have z1 : ∀ {o : HO}, upd H qb o p = some (.ins A.a_Meal dx [("bounds", .ref qb), ("wished", .ref qw), ("places", .ref qp)]) := fun {o} => by rw [upd_ne npq]; exact hp
    refine ⟨_, rfl, p, dx, _, rfl, z1, fun S nS m => ?_⟩
    have nSq : S ≠ qb := fun e => by rw [e, upd_same] at nS; cases nS
    have nS0 : H S = none := by rw [upd_ne nSq] at nS; exact nS
    have z2 : ∀ {o : HO}, upd (upd H qb (.frz od (.dK kvs))) S o p = some (.ins A.a_Meal dx [("bounds", .ref qb), ("wished", .ref qw), ("places", .ref qp)]) := fun {o} => Same.new nS _ _ z1
    have z3 : ∀ {o : HO}, upd (upd H qb (.frz od (.dK kvs))) S o qb = some (.frz od (.dK kvs)) := fun {o} => Same.new nS _ _ upd_same
    have kl : kvs.length ≤ sizeLine := by rw [hP.len]; exact Nat.le_trans (show ys.length ≤ 64 by omega) (by decide)
    refine ⟨p, dx, qb, qw, qp, od, kvs, rfl, z2, z3, fun it nit hm => ⟨it, qb, od, kvs, rfl, upd_same, Same.new nit _ _ z3, Same.new nit _ _ upd_same, hm, ⟨dx, _, Same.new nit _ _ z2⟩, ⟨p, dx, qb, qw, qp, kvs, rfl, Same.new nit _ _ z2, .inr ⟨od, Same.new nit _ _ z3⟩, kvs.length, rfl, kl, rfl⟩, ?_⟩⟩
    rw [ItX.dropH_upd nit, upd_upd, keysV hP.keys]
    refine ⟨Same.new nS _ _ upd_same, ?_⟩
    have s1 : Same H (upd (upd (upd H qb (.frz od (.dK kvs))) S (.lst (ys.map V.str))) qb (.dK kvs)) := unfrz hb (Same.new nS)
    have hS1 : upd (upd (upd H qb (.frz od (.dK kvs))) S (.lst (ys.map V.str))) qb (.dK kvs) S = some (.lst (ys.map V.str)) := by rw [upd_ne nSq, upd_same]
    generalize upd (upd (upd H qb (.frz od (.dK kvs))) S (.lst (ys.map V.str))) qb (.dK kvs) = H1 at s1 hS1 ⊢
    clear z1 z2 z3 nS nSq nS0
    -- list(tree)
    have hp3 := s1 _ _ hp2
    have hh3 := s1 _ _ hh
    refine ⟨qh, _, hh3, trivial, fun od => ?_⟩
    have npq : b ≠ qh := fun e => by rw [e, hh] at hp2; cases hp2
    have z1 : ∀ {o : HO}, upd H1 qh o b = some (.ins A.a_Book dy [("hooks", .ref qh), ("waits", .ref qx)]) := fun {o} => by rw [upd_ne npq]; exact hp3
    refine ⟨_, rfl, b, dy, _, rfl, z1, fun S2 nS m => ?_⟩
    have nSq : S2 ≠ qh := fun e => by rw [e, upd_same] at nS; cases nS
    have z2 : ∀ {o : HO}, upd (upd H1 qh (.frz od (.dK (kvF ys fun n => .str (hk n))))) S2 o b = some (.ins A.a_Book dy [("hooks", .ref qh), ("waits", .ref qx)]) := fun {o} => Same.new nS _ _ z1
    have z3 : ∀ {o : HO}, upd (upd H1 qh (.frz od (.dK (kvF ys fun n => .str (hk n))))) S2 o qh = some (.frz od (.dK (kvF ys fun n => .str (hk n)))) := fun {o} => Same.new nS _ _ upd_same
    refine ⟨b, dy, qh, qx, od, kvF ys fun n => .str (hk n), rfl, z2, z3, fun it nit hm => ⟨it, qh, od, kvF ys fun n => .str (hk n), rfl, upd_same, Same.new nit _ _ z3, Same.new nit _ _ upd_same, hm, ⟨dy, _, Same.new nit _ _ z2⟩, ?_⟩⟩
    rw [ItX.dropH_upd nit, upd_upd, keysV (kvF_keys ys fun n => .str (hk n))]
    refine ⟨Same.new nS _ _ upd_same, ?_⟩
    have s2 : Same H1 (upd (upd (upd H1 qh (.frz od (.dK (kvF ys fun n => .str (hk n))))) S2 (.lst (ys.map V.str))) qh (.dK (kvF ys fun n => .str (hk n)))) := unfrz hh3 (Same.new nS)
    have hS2 : upd (upd (upd H1 qh (.frz od (.dK (kvF ys fun n => .str (hk n))))) S2 (.lst (ys.map V.str))) qh (.dK (kvF ys fun n => .str (hk n))) S2 = some (.lst (ys.map V.str)) := by rw [upd_ne nSq, upd_same]
    generalize upd (upd (upd H1 qh (.frz od (.dK (kvF ys fun n => .str (hk n))))) S2 (.lst (ys.map V.str))) qh (.dK (kvF ys fun n => .str (hk n))) = H2 at s2 hS2 ⊢
    refine ⟨.list (ys.map PyData.str), .list (ys.map PyData.str), .lst (SqL.of (s2 _ _ hS1)) (dpStrs _), .lst (SqL.of hS2) (dpStrs _), strs_shaped ok, strs_shaped ok, _, rfl, ?_⟩
    rw [eqv_strs_refl]
    exact iteF (k _ (s1.trans s2))
def spChkMo (K : PySem.W.Frag) : Sp := fun vs H Q _ => ∃ (l dd : Addr) (xs : List V) (ds : List PyData) (kvs : List (Key × V)), vs = [.ref l, .ref dd] ∧ SqL K H l xs ∧ DpAll K H xs ds ∧ (∀ d ∈ ds, Mom kvs d) ∧ Rd H dd (.dK kvs) ∧ ∀ H', Same H H' → Q .non H'
theorem ok_chkmo (T : Txt K mg A) : FnOk P w K mg base CX0 3 A.a_check_moments A.d_check_moments P_check_moments (spChkMo K) := by
  have G_is_moment : FnOk P w K mg base CX0 2 A.a_is_moment A.d_is_moment P_is_moment (spMoment K) := ok_moment T
  refine T.f_check_moments.ok sc_check_moments (fun vs H Q E h => ?_) (fun cdv A' outer s H vs Q E hr h => ?_)
  · obtain ⟨l, dd, xs, ds, kvs, rfl, _⟩ := h
    rfl
  · obtain ⟨l, dd, xs, ds, kvs, rfl, hl, hA, hM, hd, k⟩ := h
    refine ⟨_, (pss_one (ps_for PassesOwn.never rfl (pi_list (pv 0)) (pg_name (i := 2) sc_check_moments.nd rfl (Or.inl rfl))
 (pss_one (ps_if (pt_not (pt_val (pe_call G_is_moment (hr.mono (by omega)) (by rfl) T.g_is_moment T.f_is_moment.kp T.b_is_moment .nil pass0 (pa_cons (pv 2) (pa_cons (pv 1) pa_nil)))))
 (pss_one ps_never)
 pss_nil)))), ?_⟩
    refine ⟨_, rfl, l, rfl, ⟨_, hl⟩, for_it walk_list (fun i σ' H' => ∃ x, σ' = [some (.ref l), some (.ref dd), x] ∧ Same H H') ⟨none, rfl, Same.refl _⟩ (fun i σ' H' _ ⟨_, _, s⟩ => sqUp hl s) ?_ ?_⟩
    · rintro i x σ' H' H'' hi ⟨y, rfl, s1⟩ ⟨rfl, hx⟩
      obtain ⟨d, hd1, hd2⟩ := dpGet hA hx
      refine ⟨_, rfl, _, rfl, x, dd, d, kvs, rfl, dpSame s1 hd2, hM d (List.mem_of_getElem? hd1), rdUp hd s1, fun H2 s2 => ⟨_, rfl, iteF ?_⟩⟩
      exact ⟨_, rfl, s1.trans s2⟩
    · rintro σ' H' ⟨x, rfl, s1⟩
      exact k _ s1
def spDishOf (K : PySem.W.Frag) : Sp := fun vs H Q _ => ∃ (v : V) (b : Bool) (n : Str), vs = [v] ∧ Dp K H v (Mo.edge b n).d ∧ PyData.strOk n = true ∧ Q (.str n) H
theorem ok_dishof (T : Txt K mg A) : FnOk P w K mg base CX0 1 A.a_dish_of A.d_dish_of P_dish_of (spDishOf K) := by
  refine T.f_dish_of.ok sc_dish_of (fun vs H Q E h => ?_) (fun cdv A' outer s H vs Q E hr h => ?_)
  · obtain ⟨v, b, n, rfl, _⟩ := h
    rfl
  · obtain ⟨v, b, n, rfl, hv, ok, k⟩ := h
    refine ⟨_, (pss_one (ps_ret (pe_ifExp (pt_cmpR (op_eqD hr.units) (pv 0) (pe_glob (v := .str "clock") (by rfl) T.g_CLOCK.choose_spec ⟨_, rfl⟩) (nomark _)) (pe_glob (v := .str "clock") (by rfl) T.g_CLOCK.choose_spec ⟨_, rfl⟩) (pe_ix ix_tup (pv 0) pe_int (fun _ _ => rfl))))), ?_⟩
    refine ⟨_, rfl, _, _, hv, .str _, edge_shaped ok, by decide +kernel, _, rfl, ?_⟩
    rw [mo_eqv]
    obtain ⟨a, rfl, hq⟩ := dp_edge hv
    exact iteF ⟨_, rfl, _, _, _, _, rfl, rfl, hq, rfl, k⟩
/-- the ways of all dishes, first one that hangs on the clock -/
def WaysOk (ys : List Str) (hk : Str → Str) (W : Str → List Str) : Prop := ∀ n ∈ ys, Way (rowsF ys hk) n (W n).reverse ∧ ∀ x ∈ W n, x ∈ ys
def spWayOf (K : PySem.W.Frag) : Sp := fun vs H Q _ => ∃ (v : V) (dd : Addr) (ys : List Str) (hk : Str → Str) (W : Str → List Str) (o : Mo), vs = [v, .ref dd] ∧ Dp K H v o.d ∧ o.on ys ∧ H dd = some (.dK (kvR (rowsF ys hk))) ∧ ys.Nodup ∧ (∀ n ∈ ys, PyData.strOk n = true) ∧ WaysOk ys hk W ∧
  ∀ l H', Same H H' → H l = none → H' l = some (.lst ((wayM W o).map V.str)) → Q (.ref l) H'
theorem ok_wayof (T : Txt K mg A) : FnOk P w K mg base CX0 2 A.a_way_of A.d_way_of P_way_of (spWayOf K) := by
  have G_way_up : FnOk P w K mg base CX0 1 A.a_way_up A.d_way_up P_way_up spWayUp := ok_wayup T
  refine T.f_way_of.ok sc_way_of (fun vs H Q E h => ?_) (fun cdv A' outer s H vs Q E hr h => ?_)
  · obtain ⟨v, dd, ys, hk, W, o, rfl, _⟩ := h
    rfl
  · obtain ⟨v, dd, ys, hk, W, o, rfl, hv, on, hd, nd, ok, hW, k⟩ := h
    refine ⟨_, (pss_cons (ps_if (pt_cmpR (op_eqD hr.units) (pv 0) (pe_glob (v := .str "clock") (by rfl) T.g_CLOCK.choose_spec ⟨_, rfl⟩) (nomark _))
 (pss_one (ps_ret (pe_lst pa_nil)))
 pss_nil)
 (pss_cons (ps_asg (pv 0) (pg_tup (by rfl) (pgs_cons (pg_name (i := 2) sc_way_of.nd rfl (Or.inl rfl)) (pgs_cons (pg_name (i := 3) sc_way_of.nd rfl (Or.inl rfl)) pgs_nil))))
 (pss_cons (ps_set (i := 4) sc_way_of.nd rfl (Or.inl rfl) (pe_call G_way_up (hr.mono (by omega)) (by rfl) T.g_way_up T.f_way_up.kp T.b_way_up .nil pass0 (pa_cons (pv 3) (pa_cons (pv 1) pa_nil))))
 (pss_one (ps_ret (pe_ifExp (pt_cmpR op_eq (pv 2) (pe_ix ix_tup (pe_glob (v := .ref A.a_EDGES) (by rfl) T.g_EDGES rfl) pe_int (fun _ _ => rfl)) (nomark _)) (pv 4) (pe_op op_cat (pv 4) (pe_lst (pa_cons (pv 3) pa_nil))))))))), ?_⟩
    refine ⟨_, rfl, _, _, hv, .str _, mo_shaped on ok, by decide +kernel, _, rfl, ?_⟩
    rw [mo_eqv]
    cases o with
    | clock => exact iteT ⟨Nat.zero_le _, fun l nl => k l _ (Same.new nl) nl upd_same⟩
    | edge b n =>
      refine iteF ?_
      obtain ⟨a, rfl, hq⟩ := dp_edge hv
      obtain ⟨hw, hw2⟩ := hW n on
      refine ⟨_, rfl, a, _, rfl, hq, rfl, _, _, rfl, _, _, rfl, rfl, ?_⟩
      refine ⟨_, rfl, _, rfl, dd, rowsF ys hk, n, (W n).reverse, rfl, hd, by rw [ksR_F]; exact nd, hw, fun l H1 s1 nl hl => ?_⟩
      rw [List.reverse_reverse] at hl
      have hE : SqT K H1 A.a_EDGES [.str "start", .str "done"] := stUp T.t_EDGES (fun _ _ z => nomatch z)
      refine ⟨_, rfl, _, _, _, _, rfl, rfl, hE, rfl, rfl, _, rfl, ?_⟩
      cases b with
      | false => exact iteT ⟨_, rfl, k l _ s1 nl hl⟩
      | true =>
        refine iteF ⟨_, rfl, _, rfl, by show 1 ≤ sizeLine; decide, fun e ne => ?_⟩
        have s2 := s1.trans (Same.new ne (o := .lst [.str n]))
        have wl : (W n).length ≤ 64 := by have := hw.choose_spec.2.2; rwa [List.length_reverse] at this
        refine ⟨_, _, _, _, rfl, rfl, Same.new ne _ _ hl, upd_same, by show _ ≤ sizeLine; rw [List.length_map, List.length_singleton]; exact Nat.le_trans (show (W n).length + 1 ≤ 65 by omega) (by decide), fun l2 nl2 => ?_⟩
        refine k l2 _ (s2.trans (Same.new nl2)) (s2.free nl2) ?_
        rw [upd_same]
        show some (HO.lst ((W n).map V.str ++ [.str n])) = some (HO.lst ((W n ++ [n]).map V.str))
        rw [List.map_append]; rfl
end
end K5
set_option Elab.async false
set_option linter.all false
set_option maxRecDepth 100000
set_option maxHeartbeats 4000000
namespace K5
open PySem L2
local macro_rules | `(tactic| walk_at "rd1") => `(tactic| first
  | refine ⟨_, _, rfl, rfl, ?_⟩
  | refine ⟨_, _, _, _, rfl, rfl, SqL.of (by assumption), rfl, ?_⟩
  | refine ⟨_, _, _, _, rfl, rfl, (by assumption), rfl, ?_⟩
  | refine .inl ⟨_, rfl, ?_⟩
  | refine ⟨_, rfl, ?_⟩
  | refine ⟨(by unfold CMul; omega), ?_⟩
  | refine ⟨(by unfold CPow; omega), ?_⟩
  | refine ⟨(by (try dsimp only); omega), ?_⟩
  | refine ⟨(by unfold CDiv; omega), ?_⟩
  | fail "rd1")
local macro_rules | `(tactic| walk_at "rd") => `(tactic| repeat' (walk_at "rd1"))
section
variable {P : Program} {w : World} {K : PySem.W.Frag} {mg : Str → Option Value} {base : Heap} {A : Ad}

theorem inV_strs (a : Str) (xs : List Str) : inV (.str a) (xs.map V.str) = decide (a ∈ xs) := by
  unfold inV
  rw [Bool.eq_iff_iff, List.any_eq_true, decide_eq_true_iff]
  constructor
  · rintro ⟨y, hy, e⟩
    obtain ⟨r, hr, rfl⟩ := List.mem_map.mp hy
    have e' : (r == a) = true := e
    rw [← eq_of_beq e']; exact hr
  · intro m
    exact ⟨.str a, List.mem_map.mpr ⟨a, m, rfl⟩, by show (a == a) = true; exact beq_self_eq_true a⟩
theorem flat_strs (xs : List Str) : (xs.map V.str).all flatV = true := by
  rw [List.all_eq_true]
  intro z hz
  obtain ⟨r, _, rfl⟩ := List.mem_map.mp hz
  rfl
theorem filter_step {ys : List Str} {i : Nat} (hi : i < ys.length) (p : Str → Bool) : (ys.take (i + 1)).filter p = (ys.take i).filter p ++ (if p ys[i] = true then [ys[i]] else []) := by
  rw [List.take_succ, List.getElem?_eq_getElem hi, List.filter_append]
  congr 1
  by_cases e : p ys[i] = true <;> simp [e]
def spSpread (K : PySem.W.Frag) : Sp := fun vs H Q _ => ∃ (v1 v2 : V) (dh dd : Addr) (ys : List Str) (hk : Str → Str) (W : Str → List Str) (lo hi : Str → Int) (kvs : List (Key × V)) (a b : Mo), vs = [v1, v2, .ref dh, .ref dd] ∧ Dp K H v1 a.d ∧ Dp K H v2 b.d ∧ a.on ys ∧ b.on ys ∧ H dh = some (.dK (kvR (rowsF ys hk))) ∧
  H dd = some (.dK kvs) ∧ Pr2 K H ys (fun n => .int (lo n)) (fun n => .int (hi n)) kvs ∧ ys.Nodup ∧ ys.length < 64 ∧ (∀ n ∈ ys, PyData.strOk n = true) ∧ WaysOk ys hk W ∧ ∀ H', Same H H' → Q (.int (sprM W lo hi a b)) H'
theorem way_len {ys : List Str} {hk : Str → Str} {W : Str → List Str} {o : Mo} (hW : WaysOk ys hk W) (on : o.on ys) : (wayM W o).length ≤ 65 ∧ ∀ x ∈ wayM W o, x ∈ ys := by
  cases o with
  | clock => exact ⟨Nat.zero_le _, fun x m => by cases m⟩
  | edge b n =>
    obtain ⟨hw, h2⟩ := hW n on
    have wl : (W n).length ≤ 64 := by have := hw.choose_spec.2.2; rwa [List.length_reverse] at this
    cases b with
    | false => exact ⟨show (W n).length ≤ 65 by omega, h2⟩
    | true =>
      refine ⟨by show (W n ++ [n]).length ≤ 65; rw [List.length_append, List.length_singleton]; omega, fun x m => ?_⟩
      rcases List.mem_append.mp (show x ∈ W n ++ [n] from m) with m | m
      · exact h2 x m
      · rw [List.mem_singleton.mp m]; exact on
def spLonger (K : PySem.W.Frag) : Sp := fun vs H Q _ => ∃ (l1 l2 dd : Addr) (wa wb ys : List Str) (lo hi : Str → Int) (kvs : List (Key × V)), vs = [.ref l1, .ref l2, .ref dd] ∧ H l1 = some (.lst (wa.map V.str)) ∧ H l2 = some (.lst (wb.map V.str)) ∧ wa.length ≤ 65 ∧ (∀ x ∈ wa, x ∈ ys) ∧ wb.length ≤ 65 ∧ (∀ x ∈ wb, x ∈ ys) ∧
  H dd = some (.dK kvs) ∧ Pr2 K H ys (fun n => .int (lo n)) (fun n => .int (hi n)) kvs ∧ ys.Nodup ∧ ∀ H', Same H H' → Q (.int (((wb.filter fun n => decide (n ∉ wa)).map hi).sum - ((wa.filter fun n => decide (n ∉ wb)).map lo).sum)) H'
theorem ok_longer (T : Txt K mg A) : FnOk P w K mg base CX0 1 A.a_most_longer A.d_most_longer P_most_longer (spLonger K) := by
  refine T.f_most_longer.ok sc_most_longer (fun vs H Q E h => ?_) (fun cdv A' outer s H vs Q E hr h => ?_)
  · obtain ⟨l1, l2, dd, wa, wb, ys, lo, hi, kvs, rfl, _⟩ := h
    rfl
  · obtain ⟨l1, l2, dd, wa, wb, ys, lo, hi, kvs, rfl, h1, h2, la, ma, lb, mb, hd, hP, nd, k⟩ := h
    refine ⟨_, (pss_cons (ps_set (i := 3) sc_most_longer.nd rfl (Or.inl rfl) (pe_callB (cr_sum rfl) (by rfl) T.sum (by decide +kernel) (pa_cons (pe_lc (own := [("name", 4)]) (g := gName 4) (by rfl) sc_most_longer.nd (pi_list (pv 1)) (blkOk_by (N := N_most_longer) (sc := defScope s_most_longer) (by decide +kernel)) (fun _ _ _ _ _ => pg_name (i := 4) sc_most_longer.nd rfl (Or.inl rfl)) (fun _ _ _ _ _ => pts_one (pt_cmpR (Own.notInSeqOf (K := K) rfl) (pv 4) (pv 0) (by rfl))) (fun _ _ _ _ _ => (pe_ix (Own.ixTupOf (K := K) rfl) (pe_dget (hu_of hr) (pv 2) (pv 4) (fun _ _ => rfl)) pe_int (fun _ _ => rfl)))) pa_nil)))
 (pss_one (ps_ret (pe_op op_sub (pv 3) (pe_callB (cr_sum rfl) (by rfl) T.sum (by decide +kernel) (pa_cons (pe_lc (own := [("name", 4)]) (g := gName 4) (by rfl) sc_most_longer.nd (pi_list (pv 0)) (blkOk_by (N := N_most_longer) (sc := defScope s_most_longer) (by decide +kernel)) (fun _ _ _ _ _ => pg_name (i := 4) sc_most_longer.nd rfl (Or.inl rfl)) (fun _ _ _ _ _ => pts_one (pt_cmpR (Own.notInSeqOf (K := K) rfl) (pv 4) (pv 1) (by rfl))) (fun _ _ _ _ _ => (pe_ix (Own.ixTupOf (K := K) rfl) (pe_dget (hu_of hr) (pv 2) (pv 4) (fun _ _ => rfl)) pe_int (fun _ _ => rfl)))) pa_nil)))))), ?_⟩
    have S2 : Same H H := Same.refl _
    refine ⟨_, rfl, l2, rfl, ⟨_, SqL.of h2⟩, fun D hD => lc_it walk_list (fun i H' => Same H H' ∧ H' D = some (.lst ((((wb.take i).filter fun n => decide (n ∉ wa)).map hi).map V.int))) ⟨Same.new hD, upd_same⟩ (fun i H' _ z => SqL.of (z.1 _ _ h2)) ?_ (fun H3 z => ?_)⟩
    · rintro i x H' H'' hi1 ⟨s3, hD3⟩ ⟨rfl, hx⟩
      obtain ⟨hi1, rfl⟩ := str_at hx
      have hm := mb _ (List.getElem_mem hi1)
      have S3 := S2.trans s3
      refine ⟨rfl, _, rfl, _, rfl, l1, _, rfl, .inl (SqL.of (s3 _ _ h1)), rfl, flat_strs wa, _, rfl, ?_⟩
      rw [inV_strs]
      rw [filter_step hi1]
      by_cases c1 : wb[i] ∈ wa
      · rw [decide_eq_true c1]
        refine iteF ⟨s3, ?_⟩
        rw [if_neg (by simp [c1]), List.append_nil]; exact hD3
      · rw [decide_eq_false c1]
        obtain ⟨t, hv, hq⟩ := hP.val nd hm
        refine iteT ⟨_, rfl, _, rfl, dd, .ref t, rfl, .inl ⟨kvs, .inr wb[i], .inl (S3 _ _ hd), rfl, hv.symm⟩, _, _, _, _, rfl, rfl, stUp hq S3, rfl, _, hD3, ?_, ?_, ?_⟩
        · rw [List.length_map, List.length_map]
          exact Nat.lt_of_le_of_lt (Nat.le_trans (List.length_filter_le _ _) (by rw [List.length_take]; omega)) (show 65 < sizeLine by decide)
        · exact fun b u e => by rw [upd_ne (ne_of_none e hD)]; exact s3 _ _ e
        · rw [upd_same, if_pos (by simp [c1]), List.map_append, List.map_append]; rfl
    obtain ⟨s3, hD3⟩ := z
    rw [List.length_map, List.take_length] at hD3
    refine ⟨D, _, rfl, SqL.of hD3, ?_⟩
    have h1 := s3 _ _ h1
    have h2 := s3 _ _ h2
    have S3 := S2.trans s3
    clear S2 s3 hD hD3
    refine ⟨_, rfl, _, rfl, l1, rfl, ⟨_, SqL.of h1⟩, fun D hD => lc_it walk_list (fun i H' => Same H3 H' ∧ H' D = some (.lst ((((wa.take i).filter fun n => decide (n ∉ wb)).map lo).map V.int))) ⟨Same.new hD, upd_same⟩ (fun i H' _ z => SqL.of (z.1 _ _ h1)) ?_ (fun H4 z => ?_)⟩
    · rintro i x H' H'' hi1 ⟨s4, hD4⟩ ⟨rfl, hx⟩
      obtain ⟨hi1, rfl⟩ := str_at hx
      have hm := ma _ (List.getElem_mem hi1)
      have S4 := S3.trans s4
      refine ⟨rfl, _, rfl, _, rfl, l2, _, rfl, .inl (SqL.of (s4 _ _ h2)), rfl, flat_strs wb, _, rfl, ?_⟩
      rw [inV_strs]
      rw [filter_step hi1]
      by_cases c1 : wa[i] ∈ wb
      · rw [decide_eq_true c1]
        refine iteF ⟨s4, ?_⟩
        rw [if_neg (by simp [c1]), List.append_nil]; exact hD4
      · rw [decide_eq_false c1]
        obtain ⟨t, hv, hq⟩ := hP.val nd hm
        refine iteT ⟨_, rfl, _, rfl, dd, .ref t, rfl, .inl ⟨kvs, .inr wa[i], .inl (S4 _ _ hd), rfl, hv.symm⟩, _, _, _, _, rfl, rfl, stUp hq S4, rfl, _, hD4, ?_, ?_, ?_⟩
        · rw [List.length_map, List.length_map]
          exact Nat.lt_of_le_of_lt (Nat.le_trans (List.length_filter_le _ _) (by rw [List.length_take]; omega)) (show 65 < sizeLine by decide)
        · exact fun b u e => by rw [upd_ne (ne_of_none e hD)]; exact s4 _ _ e
        · rw [upd_same, if_pos (by simp [c1]), List.map_append, List.map_append]; rfl
    obtain ⟨s4, hD4⟩ := z
    rw [List.length_map, List.take_length] at hD4
    exact ⟨D, _, rfl, SqL.of hD4, _, _, rfl, rfl, k _ (S3.trans s4)⟩
theorem ok_spread (T : Txt K mg A) : FnOk P w K mg base CX0 3 A.a_spread A.d_spread P_spread (spSpread K) := by
  have G_way_of : FnOk P w K mg base CX0 2 A.a_way_of A.d_way_of P_way_of (spWayOf K) := ok_wayof T
  have G_most_longer : FnOk P w K mg base CX0 1 A.a_most_longer A.d_most_longer P_most_longer (spLonger K) := ok_longer T
  refine T.f_spread.ok sc_spread (fun vs H Q E h => ?_) (fun cdv A' outer s H vs Q E hr h => ?_)
  · obtain ⟨v1, v2, dh, dd, ys, hk, W, lo, hi, kvs, a, b, rfl, _⟩ := h
    rfl
  · obtain ⟨v1, v2, dh, dd, ys, hk, W, lo, hi, kvs, a, b, rfl, ha, hb, aon, bon, hh, hd, hP, nd, hl, ok, hW, k⟩ := h
    refine ⟨_, (pss_one (ps_ret (pe_call G_most_longer (hr.mono (by omega)) (by rfl) T.g_most_longer T.f_most_longer.kp T.b_most_longer .nil pass0 (pa_cons (pe_call G_way_of (hr.mono (by omega)) (by rfl) T.g_way_of T.f_way_of.kp T.b_way_of .nil pass0 (pa_cons (pv 0) (pa_cons (pv 2) pa_nil))) (pa_cons (pe_call G_way_of (hr.mono (by omega)) (by rfl) T.g_way_of T.f_way_of.kp T.b_way_of .nil pass0 (pa_cons (pv 1) (pa_cons (pv 2) pa_nil))) (pa_cons (pv 3) pa_nil)))))), ?_⟩
    refine ⟨_, rfl, _, rfl, v1, dh, ys, hk, W, a, rfl, ha, aon, hh, nd, ok, hW, fun l1 H1 s1 nl1 h1 => ?_⟩
    refine ⟨_, rfl, _, rfl, v2, dh, ys, hk, W, b, rfl, dpSame s1 hb, bon, s1 _ _ hh, nd, ok, hW, fun l2 H2 s2 nl2 h2 => ?_⟩
    have S2 := s1.trans s2
    obtain ⟨la, ma⟩ := way_len hW aon
    obtain ⟨lb, mb⟩ := way_len hW bon
    exact ⟨_, rfl, l1, l2, dd, _, _, ys, lo, hi, kvs, rfl, s2 _ _ h1, h2, la, ma, lb, mb, S2 _ _ hd, hP.up S2, nd, fun H3 s3 => k H3 (S2.trans s3)⟩
def spSumOf (K : PySem.W.Frag) (C : Addr) : Sp := fun vs H Q _ => ∃ (v : V) (p : Addr) (ys : List Str) (hk : Str → Str) (wt : Str → Int) (W : Str → List Str) (o : Mo), vs = [v, .ref p] ∧ Dp K H v o.d ∧ o.on ys ∧ BkAt C H p ys hk wt ∧ ys.Nodup ∧ ys.length < 64 ∧ (∀ n ∈ ys, PyData.strOk n = true) ∧ WaysOk ys hk W ∧ ∀ H', Same H H' → Q (.int (sumM W wt o)) H'
theorem ok_sumof (T : Txt K mg A) : FnOk P w K mg base CX0 4 A.a_sum_of A.d_sum_of P_sum_of (spSumOf K A.a_Book) := by
  have G_dish_of : FnOk P w K mg base CX0 1 A.a_dish_of A.d_dish_of P_dish_of (spDishOf K) := ok_dishof T
  have G_Book_added : FnOk P w K mg base CX0 3 A.a_Book_added A.d_Book_added P_Book_added (spAdded A.a_Book) := ok_added T
  refine T.f_sum_of.ok sc_sum_of (fun vs H Q E h => ?_) (fun cdv A' outer s H vs Q E hr h => ?_)
  · obtain ⟨v, p, ys, hk, wt, W, o, rfl, _⟩ := h
    rfl
  · obtain ⟨v, p, ys, hk, wt, W, o, rfl, hv, on, B, nd, hl, ok, hW, k⟩ := h
    refine ⟨_, (pss_one (ps_ret (pe_ifExp (pt_cmpR (op_eqD hr.units) (pv 0) (pe_glob (v := .str "clock") (by rfl) T.g_CLOCK.choose_spec ⟨_, rfl⟩) (nomark _)) pe_int (pe_meth (pv 1) T.cl_B T.m_added G_Book_added (hr.mono (by omega)) T.b_Book_added .nil pass0 (pa_cons (pe_call G_dish_of (hr.mono (by omega)) (by rfl) T.g_dish_of T.f_dish_of.kp T.b_dish_of .nil pass0 (pa_cons (pv 0) pa_nil)) pa_nil))))), ?_⟩
    refine ⟨_, rfl, _, _, hv, .str _, mo_shaped on ok, by decide +kernel, _, rfl, ?_⟩
    rw [mo_eqv]
    cases o with
    | clock => exact iteT (k _ (Same.refl _))
    | edge b n =>
      refine iteF ?_
      obtain ⟨dx, qh, qw, hp, _⟩ := id B.ex
      obtain ⟨hw, hw2⟩ := hW n on
      refine ⟨_, rfl, p, dx, _, rfl, hp, rfl, _, rfl, v, b, n, rfl, hv, ok n on, p, ys, hk, wt, n, (W n).reverse, rfl, B, nd, hl, on, hw, fun x m => hw2 x (List.mem_reverse.mp m), fun H1 s1 => ?_⟩
      have := k H1 s1
      unfold sumM at this
      rw [List.reverse_reverse]
      exact this
def spMost (K : PySem.W.Frag) (CM CB : Addr) : Sp := fun vs H Q _ => ∃ (p b : Addr) (v1 v2 : V) (ys : List Str) (lo hi : Str → Int) (ds : List PyData) (hk : Str → Str) (wt : Str → Int) (rk : Str → Nat) (W : Str → List Str) (o1 o2 : Mo), vs = [.ref p, .ref b, v1, v2] ∧ MlAt K CM H p ys lo hi ds ∧ BkAt CB H b ys hk wt ∧
  Dp K H v1 o1.d ∧ Dp K H v2 o2.d ∧ o1.on ys ∧ o2.on ys ∧ ROk rk (rowsF ys hk) ∧ PyProof.Rows.sortedS ys = true ∧ WaysOk ys hk W ∧ ∀ H', Same H H' → Q (.int (mbM W wt lo hi o1 o2)) H'
theorem ok_most (T : Txt K mg A) : FnOk P w K mg base CX0 7 A.a_most_behind A.d_most_behind P_most_behind (spMost K A.a_Meal A.a_Book) := by
  have G_check_same : FnOk P w K mg base CX0 6 A.a_check_same A.d_check_same P_check_same (spSameD K A.a_Meal A.a_Book) := ok_chksame T
  have G_check_moments : FnOk P w K mg base CX0 3 A.a_check_moments A.d_check_moments P_check_moments (spChkMo K) := ok_chkmo T
  have G_Meal_dishes : FnOk P w K mg base CX0 1 A.a_Meal_dishes A.d_Meal_dishes P_Meal_dishes (spMDishes K A.a_Meal) := ok_mdishes T
  have G_Book_hanging : FnOk P w K mg base CX0 6 A.a_Book_hanging A.d_Book_hanging P_Book_hanging (spBHang K A.a_Book A.a_Hanging) := ok_bhang T
  have G_Hanging_rows : FnOk P w K mg base CX0 1 A.a_Hanging_rows A.d_Hanging_rows P_Hanging_rows (spHRows A.a_Hanging) := ok_hrows T
  have G_spread : FnOk P w K mg base CX0 3 A.a_spread A.d_spread P_spread (spSpread K) := ok_spread T
  have G_sum_of : FnOk P w K mg base CX0 4 A.a_sum_of A.d_sum_of P_sum_of (spSumOf K A.a_Book) := ok_sumof T
  refine T.f_most_behind.ok sc_most_behind (fun vs H Q E h => ?_) (fun cdv A' outer s H vs Q E hr h => ?_)
  · obtain ⟨p, b, v1, v2, ys, lo, hi, ds, hk, wt, rk, W, o1, o2, rfl, _⟩ := h
    rfl
  · obtain ⟨p, b, v1, v2, ys, lo, hi, ds, hk, wt, rk, W, o1, o2, rfl, M, B, d1, d2, on1, on2, hO, hs, hW, k⟩ := h
    have nd : ys.Nodup := by have := hO.nd; rwa [ksR_F] at this
    have hl : ys.length < 64 := by have := hO.len; rwa [← ksR_len, ksR_F] at this
    have ok : ∀ n ∈ ys, PyData.strOk n = true := fun n m => (hO.nm n (by rw [ksR_F]; exact m)).2
    refine ⟨_, (pss_cons (ps_expr (pe_call G_check_same (hr.mono (by omega)) (by rfl) T.g_check_same T.f_check_same.kp T.b_check_same .nil pass0 (pa_cons (pv 0) (pa_cons (pv 1) pa_nil))))
 (pss_cons (ps_expr (pe_call G_check_moments (hr.mono (by omega)) (by rfl) T.g_check_moments T.f_check_moments.kp T.b_check_moments .nil pass0 (pa_cons (pe_lst (pa_cons (pv 2) (pa_cons (pv 3) pa_nil))) (pa_cons (pe_meth0 (pv 0) T.cl_M T.m_dishes G_Meal_dishes (hr.mono (by omega)) T.b_Meal_dishes .nil pass0) pa_nil))))
 (pss_cons (ps_set (i := 4) sc_most_behind.nd rfl (Or.inl rfl) (pe_call G_spread (hr.mono (by omega)) (by rfl) T.g_spread T.f_spread.kp T.b_spread .nil pass0 (pa_cons (pv 2) (pa_cons (pv 3) (pa_cons (pe_meth0 (pe_meth0 (pv 1) T.cl_B T.m_hanging G_Book_hanging (hr.mono (by omega)) T.b_Book_hanging .nil pass0) T.cl T.m_rows G_Hanging_rows (hr.mono (by omega)) T.b_Hanging_rows .nil pass0) (pa_cons (pe_meth0 (pv 0) T.cl_M T.m_dishes G_Meal_dishes (hr.mono (by omega)) T.b_Meal_dishes .nil pass0) pa_nil))))))
 (pss_one (ps_ret (pe_op op_add (pe_op op_sub (pe_call G_sum_of (hr.mono (by omega)) (by rfl) T.g_sum_of T.f_sum_of.kp T.b_sum_of .nil pass0 (pa_cons (pv 3) (pa_cons (pv 1) pa_nil))) (pe_call G_sum_of (hr.mono (by omega)) (by rfl) T.g_sum_of T.f_sum_of.kp T.b_sum_of .nil pass0 (pa_cons (pv 2) (pa_cons (pv 1) pa_nil)))) (pv 4))))))), ?_⟩
    refine ⟨_, rfl, _, rfl, p, b, ys, lo, hi, ds, hk, wt, rfl, M, B, hl, ok, fun H1 s1 => ?_⟩
    refine ⟨_, rfl, _, rfl, by show 2 ≤ sizeLine; decide, fun l nl => ?_⟩
    have s2 := s1.trans (Same.new nl (o := .lst [v1, v2]))
    have hl2 : upd H1 l (.lst [v1, v2]) l = some (.lst [v1, v2]) := upd_same
    generalize upd H1 l (.lst [v1, v2]) = H2 at s2 hl2 ⊢
    obtain ⟨dx, qb, qw, qp, kvs0, ws0, hp, _⟩ := id M.ex
    obtain ⟨dy, qh, qx, hb, _⟩ := id B.ex
    refine ⟨_, rfl, p, dx, _, rfl, s2 _ _ hp, rfl, p, ys, lo, hi, ds, rfl, M.up s2, fun l3 H3 kvs nl3 s3 h3 hP3 => ?_⟩
    have S3 := s2.trans s3
    have hk3 : ∀ n ∈ ys, (valV kvs (.inr n)).isSome = true ∧ PyData.strOk n = true := fun n m => by
      obtain ⟨a, e, _⟩ := hP3.val nd m
      exact ⟨by rw [e]; rfl, ok n m⟩
    refine ⟨l, l3, [v1, v2], [o1.d, o2.d], kvs, rfl, SqL.of (s3 _ _ hl2), .cons (dpSame S3 d1) (.cons (dpSame S3 d2) .nil), fun d m => ?_, .inl h3, fun H4 s4 => ?_⟩
    · rcases List.mem_cons.mp m with e | m
      · rw [e]; exact mo_mom on1 hk3
      · rw [List.mem_singleton.mp m]; exact mo_mom on2 hk3
    have S4 := S3.trans s4
    clear s1 s2 s3 s4 hl2 h3 hP3 hk3 S3
    refine ⟨_, rfl, _, rfl, _, rfl, b, dy, _, rfl, S4 _ _ hb, rfl, b, ys, hk, wt, rk, rfl, B.up S4, hO, hs, fun q H5 d s5 hg => ?_⟩
    have S5 := S4.trans s5
    obtain ⟨dz, hq⟩ := id hg.ex
    refine ⟨q, dz, _, rfl, hq, rfl, q, d, _, rfl, hg, fun l6 nl6 => ?_⟩
    have S6 := S5.trans (Same.new nl6 (o := .dK (kvR (rowsF ys hk))))
    have h6 : upd H5 l6 (.dK (kvR (rowsF ys hk))) l6 = some (.dK (kvR (rowsF ys hk))) := upd_same
    generalize upd H5 l6 (.dK (kvR (rowsF ys hk))) = H6 at S6 h6 ⊢
    refine ⟨_, rfl, p, dx, _, rfl, S6 _ _ hp, rfl, p, ys, lo, hi, ds, rfl, M.up S6, fun l7 H7 kvs7 nl7 s7 h7 hP7 => ?_⟩
    have S7 := S6.trans s7
    refine ⟨v1, v2, l6, l7, ys, hk, W, lo, hi, kvs7, o1, o2, rfl, dpSame S7 d1, dpSame S7 d2, on1, on2, s7 _ _ h6, h7, hP7, nd, hl, ok, hW, fun H8 s8 => ?_⟩
    have S8 := S7.trans s8
    refine ⟨_, rfl, _, rfl, v2, b, ys, hk, wt, W, o2, rfl, dpSame S8 d2, on2, B.up S8, nd, hl, ok, hW, fun H9 s9 => ?_⟩
    have S9 := S8.trans s9
    refine ⟨_, rfl, _, rfl, v1, b, ys, hk, wt, W, o1, rfl, dpSame S9 d1, on1, B.up S9, nd, hl, ok, hW, fun H10 s10 => ?_⟩
    exact ⟨_, _, rfl, rfl, _, rfl, _, _, rfl, rfl, k _ (S9.trans s10)⟩
end
end K5
set_option Elab.async false
set_option linter.all false
set_option maxRecDepth 100000
set_option maxHeartbeats 4000000
namespace K5
open PySem L2
local macro_rules | `(tactic| walk_at "rd1") => `(tactic| first
  | refine ⟨_, _, rfl, rfl, ?_⟩
  | refine ⟨_, _, _, _, rfl, rfl, SqL.of (by assumption), rfl, ?_⟩
  | refine ⟨_, _, _, _, rfl, rfl, (by assumption), rfl, ?_⟩
  | refine .inl ⟨_, rfl, ?_⟩
  | refine ⟨_, rfl, ?_⟩
  | refine ⟨(by unfold CMul; omega), ?_⟩
  | refine ⟨(by unfold CPow; omega), ?_⟩
  | refine ⟨(by (try dsimp only); omega), ?_⟩
  | refine ⟨(by unfold CDiv; omega), ?_⟩
  | fail "rd1")
local macro_rules | `(tactic| walk_at "rd") => `(tactic| repeat' (walk_at "rd1"))
section
variable {P : Program} {w : World} {K : PySem.W.Frag} {mg : Str → Option Value} {base : Heap} {A : Ad}

theorem merge_all : ∀ (kvs acc : List (Key × V)), ((acc ++ kvs).map (·.1)).Nodup → mergeK acc kvs = acc ++ kvs
  | [], acc, _ => (List.append_nil acc).symm
  | (k, v) :: r, acc, h => by
    have e : mergeK acc ((k, v) :: r) = mergeK (putK acc k v) r := rfl
    have e2 : (acc ++ (k, v) :: r) = (acc ++ [(k, v)]) ++ r := by rw [List.append_assoc]; rfl
    rw [e2] at h
    have hn : k ∉ acc.map (·.1) := fun m => by
      rw [List.map_append, List.map_append, List.append_assoc] at h
      exact (List.nodup_append.mp h).2.2 _ m _ (List.mem_append_left _ (List.mem_singleton.mpr rfl)) rfl
    rw [e, put_new acc k v hn, merge_all r _ h, e2]
theorem paired_snoc {α β : Type} {R : α → β → Prop} : ∀ {xs : List α} {ys : List β} {x : α} {y : β}, Paired R xs ys → R x y → Paired R (xs ++ [x]) (ys ++ [y])
  | _, _, _, _, .nil, h => .cons h .nil
  | _, _, _, _, .cons a b, h => .cons a (paired_snoc b h)
theorem paired_imp {α β : Type} {R S : α → β → Prop} (f : ∀ a b, R a b → S a b) : ∀ {xs : List α} {ys : List β}, Paired R xs ys → Paired S xs ys
  | _, _, .nil => .nil
  | _, _, .cons a b => .cons (f _ _ a) (paired_imp f b)

/-! ### wishes by moments -/
def wiD (w : Mo × Mo × Int) : PyData := .tuple [w.1.d, w.2.1.d, .int w.2.2]
theorem wi_of {ns : List Str} : ∀ {ds : List PyData}, (∀ d ∈ ds, WshN ns d) → ∃ ws : List (Mo × Mo × Int), ds = ws.map wiD ∧ ∀ w ∈ ws, w.1.on ns ∧ w.2.1.on ns
  | [], _ => ⟨[], rfl, fun w m => by cases m⟩
  | d :: ds, h => by
    obtain ⟨ws, e, hw⟩ := wi_of fun d m => h d (List.mem_cons_of_mem _ m)
    cases h d (List.mem_cons_self ..) with
    | @mk a b m ha hb =>
      obtain ⟨o1, rfl, q1⟩ := mo_of ha
      obtain ⟨o2, rfl, q2⟩ := mo_of hb
      refine ⟨(o1, o2, m) :: ws, by rw [e]; rfl, fun w hm => ?_⟩
      rcases List.mem_cons.mp hm with e | hm
      · rw [e]; exact ⟨q1, q2⟩
      · exact hw w hm
theorem dp_wi {H : Hp} {v : V} {w : Mo × Mo × Int} (h : Dp K H v (wiD w)) : ∃ (a : Addr) (v1 v2 : V), v = .ref a ∧ SqT K H a [v1, v2, .int w.2.2] ∧ Dp K H v1 w.1.d ∧ Dp K H v2 w.2.1.d := by
  cases h with
  | tup hq hA =>
    cases hA with
    | cons h1 hA =>
      cases hA with
      | cons h2 hA =>
        cases hA with
        | cons h3 hA =>
          cases h3
          cases hA
          exact ⟨_, _, _, rfl, hq, h1, h2⟩
def slM (W : Str → List Str) (wt lo hi : Str → Int) (w : Mo × Mo × Int) : Int := w.2.2 - mbM W wt lo hi w.1 w.2.1
def spSlacks (K : PySem.W.Frag) (CM CB : Addr) : Sp := fun vs H Q _ => ∃ (p b : Addr) (ys : List Str) (lo hi : Str → Int) (ws : List (Mo × Mo × Int)) (hk : Str → Str) (wt : Str → Int) (rk : Str → Nat) (W : Str → List Str), vs = [.ref p, .ref b] ∧ MlAt K CM H p ys lo hi (ws.map wiD) ∧ BkAt CB H b ys hk wt ∧
  (∀ w ∈ ws, w.1.on ys ∧ w.2.1.on ys) ∧ ws.length ≤ 1000 ∧ ROk rk (rowsF ys hk) ∧ PyProof.Rows.sortedS ys = true ∧ WaysOk ys hk W ∧ ∀ l H', Same H H' → H l = none → H' l = some (.lst ((ws.map (slM W wt lo hi)).map V.int)) → Q (.ref l) H'
theorem ok_slacks (T : Txt K mg A) : FnOk P w K mg base CX0 8 A.a_slacks A.d_slacks P_slacks (spSlacks K A.a_Meal A.a_Book) := by
  have G_check_same : FnOk P w K mg base CX0 6 A.a_check_same A.d_check_same P_check_same (spSameD K A.a_Meal A.a_Book) := ok_chksame T
  have G_Meal_wishes : FnOk P w K mg base CX0 1 A.a_Meal_wishes A.d_Meal_wishes P_Meal_wishes (spMWishes K A.a_Meal) := ok_mwishes T
  have G_most_behind : FnOk P w K mg base CX0 7 A.a_most_behind A.d_most_behind P_most_behind (spMost K A.a_Meal A.a_Book) := ok_most T
  refine T.f_slacks.ok sc_slacks (fun vs H Q E h => ?_) (fun cdv A' outer s H vs Q E hr h => ?_)
  · obtain ⟨p, b, ys, lo, hi, ws, hk, wt, rk, W, rfl, _⟩ := h
    rfl
  · obtain ⟨p, b, ys, lo, hi, ws, hk, wt, rk, W, rfl, M, B, hw, wl, hO, hs, hW, k⟩ := h
    have hl : ys.length < 64 := by have := hO.len; rwa [← ksR_len, ksR_F] at this
    have ok : ∀ n ∈ ys, PyData.strOk n = true := fun n m => (hO.nm n (by rw [ksR_F]; exact m)).2
    obtain ⟨dx, qb, qw, qp, kvs0, ws0, hp, _⟩ := id M.ex
    refine ⟨_, (pss_cons (ps_expr (pe_call G_check_same (hr.mono (by omega)) (by rfl) T.g_check_same T.f_check_same.kp T.b_check_same .nil pass0 (pa_cons (pv 0) (pa_cons (pv 1) pa_nil))))
 (pss_one (ps_ret (pe_lc (own := [("one", 2), ("other", 3), ("most", 4)]) (g := gTup K 3 (gCons (gName 2) (gCons (gName 3) (gCons (gName 4) gNil)))) (by rfl) sc_slacks.nd (pi_list (pe_meth0 (pv 0) T.cl_M T.m_wishes G_Meal_wishes (hr.mono (by omega)) T.b_Meal_wishes .nil pass0)) (blkOk_by (N := N_slacks) (sc := defScope s_slacks) (by decide +kernel)) (fun _ _ _ _ _ => (pg_tup rfl (pgs_cons (pg_name (i := 2) sc_slacks.nd rfl (Or.inl rfl)) (pgs_cons (pg_name (i := 3) sc_slacks.nd rfl (Or.inl rfl)) (pgs_cons (pg_name (i := 4) sc_slacks.nd rfl (Or.inl rfl)) pgs_nil))))) (fun _ _ _ _ _ => pts_nil) (fun _ _ _ _ _ => (pe_op op_sub (pv 4) (pe_call G_most_behind (hr.mono (by omega)) (by rfl) T.g_most_behind T.f_most_behind.kp T.b_most_behind .nil pass0 (pa_cons (pv 0) (pa_cons (pv 1) (pa_cons (pv 2) (pa_cons (pv 3) pa_nil))))))))))), ?_⟩
    refine ⟨_, rfl, _, rfl, p, b, ys, lo, hi, _, hk, wt, rfl, M, B, hl, ok, fun H1 s1 => ?_⟩
    refine ⟨_, rfl, p, dx, _, rfl, s1 _ _ hp, rfl, p, ys, lo, hi, _, rfl, M.up s1, fun l us nl hA => ?_⟩
    have S2 := s1.trans (Same.new nl (o := .lst us))
    have hl2 : upd H1 l (.lst us) l = some (.lst us) := upd_same
    have hA2 := dpAllSame (Same.new nl (o := .lst us)) hA
    generalize upd H1 l (.lst us) = H2 at S2 hl2 hA2 ⊢
    clear hA nl s1
    have ul : us.length = ws.length := by rw [dpLen hA2, List.length_map]
    refine ⟨l, rfl, ⟨_, SqL.of hl2⟩, fun D hD => lc_it walk_list (fun i H' => Same H2 H' ∧ H' D = some (.lst (((ws.take i).map (slM W wt lo hi)).map V.int))) ⟨Same.new hD, upd_same⟩ (fun i H' _ z => SqL.of (z.1 _ _ hl2)) ?_ (fun H3 z => ?_)⟩
    · rintro i x H' H'' hi1 ⟨s3, hD3⟩ ⟨rfl, hx⟩
      have hi2 : i < ws.length := by rw [← ul]; exact hi1
      obtain ⟨d, hd1, hd2⟩ := dpGet hA2 hx
      rw [List.getElem?_map, List.getElem?_eq_getElem hi2] at hd1
      obtain rfl : wiD ws[i] = d := Option.some.inj hd1
      obtain ⟨a, v1, v2, rfl, hq, e1, e2⟩ := dp_wi hd2
      obtain ⟨on1, on2⟩ := hw _ (List.getElem_mem hi2)
      have S3 := S2.trans s3
      refine ⟨a, _, rfl, stUp hq s3, rfl, _, _, rfl, _, _, rfl, _, _, rfl, rfl, rfl, ?_⟩
      refine ⟨_, rfl, _, rfl, _, rfl, _, rfl, _, rfl, p, b, v1, v2, ys, lo, hi, _, hk, wt, rk, W, ws[i].1, ws[i].2.1, rfl, M.up S3, B.up S3, dpSame s3 e1, dpSame s3 e2, on1, on2, hO, hs, hW, fun H4 s4 => ?_⟩
      refine ⟨_, _, rfl, rfl, _, s4 _ _ hD3, ?_, ?_, ?_⟩
      · rw [List.length_map, List.length_map, List.length_take]
        exact Nat.lt_of_le_of_lt (show min i _ ≤ 1000 by omega) (by decide)
      · exact fun b u e => by rw [upd_ne (ne_of_none e hD)]; exact s4 _ _ (s3 _ _ e)
      · rw [upd_same, take_map (slM W wt lo hi) hi2, List.map_append]; rfl
    · obtain ⟨s3, hD3⟩ := z
      rw [ul, List.take_length] at hD3
      exact k D H3 (S2.trans s3) (S2.free hD) hD3
/-! ### the law's helpers -/
theorem Sta.at_ {H : Hp} {st c t : Addr} {b : Int} {u o : HO} (h : Sta H st c b) (ht : er H st t = some u) (hu : ∀ xs, u ≠ .lst xs) : Sta (upd H t o) st c b := by
  obtain ⟨cs, i, l, m, n, h1, h2, h3⟩ := h.ex
  have ns := (er_some ht).1
  have nc : c ≠ t := fun e => by rw [e, ht] at h2; exact hu _ (Option.some.inj h2)
  exact ⟨cs, i, l, m, n, by rw [upd_ne ns.symm]; exact h1, by rw [er_updp ns, upd_ne nc]; exact h2, h3⟩
theorem Gs.unlock {H H' : Hp} {st c t : Addr} {b b0 : Int} {u o : HO} (S0 : Sta H st c b0) (ht : er H st t = some u) (hu : ∀ xs, u ≠ .lst xs) (g : Gs st c (upd H t o) H' b) : Gs st c H (upd H' t u) b := by
  have ns := (er_some ht).1
  obtain ⟨cs0, i0, l0, m0, n0, _, c0, _⟩ := S0.ex
  have nc : c ≠ t := fun e => by rw [e, ht] at c0; exact hu _ (Option.some.inj c0)
  obtain ⟨cs, i, l, m, n, h1, h2, h3⟩ := g.sta.ex
  refine ⟨⟨cs, i, l, m, n, by rw [upd_ne ns.symm]; exact h1, by rw [er_updp ns, upd_ne nc]; exact h2, h3⟩, fun x v e => ?_⟩
  rw [er_updp ns]
  by_cases hx : x = t
  · subst hx; rw [upd_same]; rw [ht] at e; exact e
  · rw [upd_ne hx]
    exact g.same _ _ (by rw [er_updp ns, upd_ne hx]; exact e)
def spWaiting (K : PySem.W.Frag) : Sp := fun vs H Q _ => ∃ (st c t : Addr) (ns : List Str) (hk : Str → Str) (b : Int), vs = [.ref st, .ref t] ∧ Sta H st c b ∧ b + 64 ≤ 1000000 ∧ er H st t = some (.dK (kvR (rowsF ns hk))) ∧ ns.Nodup ∧ ns.length < 64 ∧
  ∀ (p : Addr) (wt : Str → Int) (kvs : List (Key × V)) (H' : Hp), Gs st c H H' (b + 64) → er H' st p = some (.dK kvs) → Pr2 K (er H' st) ns (fun n => .str (hk n)) (fun n => .int (wt n)) kvs → (∀ n, 0 ≤ wt n) → er H st p = none → Q (.ref p) H'
theorem ok_waiting (T : Txt K mg A) : FnOk P w K mg base CX0 2 A.a__law_waiting A.d__law_waiting P__law_waiting (spWaiting K) := by
  have G__law_take : FnOk P w K mg base CX0 1 A.a__law_take A.d__law_take P__law_take spTake := ok_take T
  refine T.f__law_waiting.ok sc__law_waiting (fun vs H Q E h => ?_) (fun cdv A' outer s H vs Q E hr h => ?_)
  · obtain ⟨st, c, t, ns, hk, b, rfl, _⟩ := h
    rfl
  · obtain ⟨st, c, t, ns, hk, b, rfl, S, hb, ht, nd, hl, k⟩ := h
    refine ⟨_, (pss_one (ps_ret (pe_callTy (call_dictP rfl) (by rfl) T.dict (by decide +kernel) (pa_cons (pe_lock (pe_lc (own := [("_law_name", 2)]) (g := gName 2) (by rfl) sc__law_waiting.nd (pi_keys (pv 1)) (blkOk_by (N := N__law_waiting) (sc := defScope s__law_waiting) (by decide +kernel)) (fun _ _ _ _ _ => pg_name (i := 2) sc__law_waiting.nd rfl (Or.inl rfl)) (fun _ _ _ _ _ => pts_nil) (fun _ _ _ _ _ => (pe_tup (pa_cons (pv 2) (pa_cons (pe_tup (pa_cons (pe_dget (hu_of hr) (pv 1) (pv 2) (fun _ _ => rfl)) (pa_cons (pe_call G__law_take (hr.mono (by omega)) (by rfl) T.g__law_take T.f__law_take.kp T.b__law_take .nil pass0 (pa_cons (pv 0) (pa_cons pe_int pa_nil))) pa_nil))) pa_nil)))))) pa_nil)))), ?_⟩
    rw [kvR_F] at ht
    have hu : ∀ xs, (HO.dK (kvF ns fun n => .str (hk n))) ≠ .lst xs := fun _ z => nomatch z
    have ht0 := (er_some ht).2
    have nts := (er_some ht).1
    refine ⟨t, _, ht0, trivial, fun od => ?_⟩
    have S1 : Sta (upd H t (.frz od (.dK (kvF ns fun n => .str (hk n))))) st c b := S.at_ ht hu
    have htf : er (upd H t (.frz od (.dK (kvF ns fun n => .str (hk n))))) st t = some (.frz od (.dK (kvF ns fun n => .str (hk n)))) := er_of nts upd_same
    have G0 : ∀ {H' : Hp} {b' : Int}, Gs st c (upd H t (.frz od (.dK (kvF ns fun n => .str (hk n))))) H' b' → Gs st c H (upd H' t (.dK (kvF ns fun n => .str (hk n)))) b' := fun g => g.unlock S ht hu
    refine ⟨_, rfl, t, od, rfl, .inl ⟨_, upd_same, fun D hD => ?_⟩⟩
    generalize hHf : upd H t (.frz od (.dK (kvF ns fun n => .str (hk n)))) = Hf at S1 htf G0 hD ⊢
    have mD := S1.ne hD
    have eD := er_none (st := st) hD
    refine lc_it walk_keys (fun i H' => ∃ (ps : List Addr) (kvs : List (Key × V)) (wt : Str → Int), er H' st D = some (.lst (ps.map V.ref)) ∧ Paired (fun p kv => SqT K (er H' st) p [kV kv.1, kv.2]) ps kvs ∧ Pr2 K (er H' st) (ns.take i) (fun n => .str (hk n)) (fun n => .int (wt n)) kvs ∧ (∀ n, 0 ≤ wt n) ∧ Gs st c Hf H' (b + (i : Int)))
      ⟨[], [], fun _ => 0, er_of mD upd_same, .nil, Pr2.nil, fun _ => Int.le_refl _, by simpa using (Gs.refl S1).new hD⟩ (fun i H' _ z => ?_) ?_ (fun H1 z => ?_)
    · obtain ⟨_, _, _, _, _, _, _, g⟩ := z
      exact (er_same _ _) _ _ (g.same _ _ htf)
    · rintro i x H' H'' hi ⟨ps, kvs, wt, hD1, hP, hR, hw, g⟩ ⟨rfl, key, v, hkv, rfl⟩
      obtain ⟨hi1, rfl, rfl⟩ := kvF_at hkv
      have hm := List.getElem_mem hi1
      refine ⟨rfl, _, rfl, _, rfl, _, rfl, t, .str (hk ns[i]), rfl, .inl ⟨_, .inr ns[i], .inr ⟨od, (er_same _ _) _ _ (g.same _ _ htf)⟩, rfl, (kvF_val (f := fun n => .str (hk n)) nd hm).symm⟩, ?_⟩
      refine ⟨_, rfl, st, c, 8, _, rfl, g.sta, by omega, by omega, by omega, fun r o hr0 hr1 S2 => ?_⟩
      have g2 := g.trans (Gs.of_upd S2)
      rw [← er_upd H'' st o] at hD1 hP hR
      generalize upd H'' st o = H2 at g2 hD1 hP hR ⊢
      refine ⟨by show 2 ≤ sizeLine; decide, fun t1 nt1 => ?_⟩
      have m1 := g2.sta.ne nt1
      have g3 := g2.new nt1 (o := .tup [.str (hk ns[i]), .int r])
      have s3 : Same (er H2 st) (er (upd H2 t1 (.tup [.str (hk ns[i]), .int r])) st) := er_mono (Same.new nt1)
      have h1 : er (upd H2 t1 (.tup [.str (hk ns[i]), .int r])) st t1 = some (.tup [.str (hk ns[i]), .int r]) := er_of m1 upd_same
      have hD3 := s3 _ _ hD1
      have hP3 := paired_imp (fun p (kv : Key × V) (z : SqT K _ p [kV kv.1, kv.2]) => stUp z s3) hP
      have hR3 := hR.up s3
      generalize upd H2 t1 (.tup [.str (hk ns[i]), .int r]) = H3 at g3 h1 hD3 hP3 hR3 ⊢
      refine ⟨by show 2 ≤ sizeLine; decide, fun t2 nt2 => ?_⟩
      have m2 := g3.sta.ne nt2
      have g4 := g3.new nt2 (o := .tup [kV (.inr ns[i]), .ref t1])
      have s4 : Same (er H3 st) (er (upd H3 t2 (.tup [kV (.inr ns[i]), .ref t1])) st) := er_mono (Same.new nt2)
      have h2 : er (upd H3 t2 (.tup [kV (.inr ns[i]), .ref t1])) st t2 = some (.tup [kV (.inr ns[i]), .ref t1]) := er_of m2 upd_same
      have h1 := s4 _ _ h1
      have hD4 := s4 _ _ hD3
      have hP4 := paired_imp (fun p (kv : Key × V) (z : SqT K _ p [kV kv.1, kv.2]) => stUp z s4) hP3
      have hR4 := hR3.up s4
      generalize upd H3 t2 (.tup [kV (.inr ns[i]), .ref t1]) = H4 at g4 h1 h2 hD4 hP4 hR4 ⊢
      have hpl : ps.length = i := by
        rw [hP.length, hR.len, List.length_take]; omega
      refine ⟨_, (er_same _ _) _ _ hD4, ?_, ?_⟩
      · rw [List.length_map, hpl]
        exact Nat.lt_of_lt_of_le (show i < 65 by omega) (by decide)
      have nL := noTup_lst (ps.map V.ref)
      have e1 : ns.take (i + 1) = ns.take i ++ [ns[i]] := by rw [List.take_succ, List.getElem?_eq_getElem hi1]; rfl
      have setT : ∀ {a : Addr} {xs : List V}, SqT K (er H4 st) a xs → SqT K (er (upd H4 D (.lst (ps.map V.ref ++ [.ref t2]))) st) a xs := fun z => by
        rw [er_updp mD]; exact tupSet hD4 nL z
      refine ⟨ps ++ [t2], kvs ++ [(.inr ns[i], .ref t1)], fun n => if n = ns[i] then r else wt n, ?_, ?_, ?_, ?_, ?_⟩
      · rw [er_updp mD, upd_same, List.map_append]; rfl
      · exact paired_snoc (paired_imp (fun p (kv : Key × V) z => setT z) hP4) (setT (SqT.of h2))
      · rw [e1]
        refine Pr2.snoc ((by rw [er_updp mD]; exact hR4.set hD4 nL : Pr2 K _ (ns.take i) _ (fun n => .int (wt n)) kvs).congr fun n m => ⟨rfl, ?_⟩) ?_
        · show V.int (wt n) = V.int (if n = ns[i] then r else wt n)
          rw [if_neg (fun e : n = ns[i] => not_in_take nd hi1 (by rw [← e]; exact m))]
        · show SqT K _ t1 [.str (hk ns[i]), .int (if ns[i] = ns[i] then r else wt ns[i])]
          rw [if_pos rfl]; exact setT (SqT.of h1)
      · intro n
        show 0 ≤ if n = ns[i] then r else wt n
        split
        · exact hr0
        · exact hw n
      · exact (g4.set S1.hc eD mD).le (by omega) (by omega)
    · obtain ⟨ps, kvs, wt, hD1, hP, hR, hw, g⟩ := z
      rw [kvF_len, List.take_length] at hR
      rw [kvF_len] at g
      have htE := (er_same _ _) _ _ (g.same _ _ htf)
      refine ⟨htE, ?_⟩
      have g1 := G0 g
      have s1 : Same (er (er H1 st) t) (er (upd H1 t (.dK (kvF ns fun n => .str (hk n)))) st) := fun x u e => by
        obtain ⟨n1, e1⟩ := er_some e
        rw [er_updp nts, upd_ne n1]; exact e1
      have nF : NoTup (.frz od (.dK (kvF ns fun n => .str (hk n)))) := ⟨fun _ z => (nomatch z), fun _ _ z => (nomatch z)⟩
      have ht1 := g.same _ _ htf
      have hP1 := paired_imp (fun p (kv : Key × V) (z : SqT K _ p [kV kv.1, kv.2]) => stUp (tupEr ht1 nF z) s1) hP
      have hR1 := (hR.er ht1 nF).up s1
      have nDt : D ≠ t := fun e => by rw [e, ht1] at hD1; cases hD1
      have hD2 := s1 _ _ (er_of nDt hD1)
      generalize upd H1 t (.dK (kvF ns fun n => .str (hk n))) = H2 at g1 hP1 hR1 hD2 ⊢
      refine ⟨D, ps, kvs, rfl, SqL.of ((er_same _ _) _ _ hD2), paired_imp (fun p (kv : Key × V) (z : SqT K _ p [kV kv.1, kv.2]) => stUp z (er_same _ _)) hP1, fun pd npd => ?_⟩
      rw [merge_all kvs [] (by rw [List.nil_append, hR1.keys]; exact inr_nd nd), List.nil_append]
      have mp := g1.sta.ne npd
      refine k pd wt kvs _ ((g1.new npd).le (by omega) hb) (er_of mp upd_same) (hR1.up (er_mono (Same.new npd))) hw ?_
      exact g1.same.free (er_none npd)
end
end K5
set_option Elab.async false
set_option linter.all false
set_option maxRecDepth 100000
set_option maxHeartbeats 4000000
namespace K5
open PySem L2
local macro_rules | `(tactic| walk_at "rd1") => `(tactic| first
  | refine ⟨_, _, rfl, rfl, ?_⟩
  | refine ⟨_, _, _, _, rfl, rfl, SqL.of (by assumption), rfl, ?_⟩
  | refine ⟨_, _, _, _, rfl, rfl, (by assumption), rfl, ?_⟩
  | refine .inl ⟨_, rfl, ?_⟩
  | refine ⟨_, rfl, ?_⟩
  | refine ⟨(by unfold CMul; omega), ?_⟩
  | refine ⟨(by unfold CPow; omega), ?_⟩
  | refine ⟨(by (try dsimp only); omega), ?_⟩
  | refine ⟨(by unfold CDiv; omega), ?_⟩
  | fail "rd1")
local macro_rules | `(tactic| walk_at "rd") => `(tactic| repeat' (walk_at "rd1"))
section
variable {P : Program} {w : World} {K : PySem.W.Frag} {mg : Str → Option Value} {base : Heap} {A : Ad}

/-! ### one further dish below all -/
def hkB (hk : Str → Str) (n : Str) : Str := if n = "qq" then "clock" else if hk n = "clock" then "qq" else hk n
def inB {α : Type} (x : α) (f : Str → α) (n : Str) : α := if n = "qq" then x else f n
theorem hkB_ne {hk : Str → Str} {n : Str} (h : n ≠ "qq") : hkB hk n = (if hk n = "clock" then ("qq" : Str) else hk n) := if_neg h
theorem inB_ne {α : Type} {x : α} {f : Str → α} {n : Str} (h : n ≠ "qq") : inB x f n = f n := if_neg h
theorem inB_qq {α : Type} {x : α} {f : Str → α} : inB x f "qq" = x := if_pos rfl
def spBelow (K : PySem.W.Frag) : Sp := fun vs H Q _ => ∃ (d : Addr) (w : Int) (ns : List Str) (hk : Str → Str) (wt : Str → Int) (kvs : List (Key × V)), vs = [.ref d, .int w] ∧ H d = some (.dK kvs) ∧ Pr2 K H ns (fun n => .str (hk n)) (fun n => .int (wt n)) kvs ∧ ns.Nodup ∧ ns.length < 63 ∧ ("qq" : Str) ∉ ns ∧
  ∀ p H' kvs', Same H H' → H p = none → H' p = some (.dK kvs') → Pr2 K H' ("qq" :: ns) (fun n => .str (hkB hk n)) (fun n => .int (inB w wt n)) kvs' → Q (.ref p) H'
theorem ok_below (T : Txt K mg A) : FnOk P w K mg base CX0 1 A.a__law_below A.d__law_below P__law_below (spBelow K) := by
  refine T.f__law_below.ok sc__law_below (fun vs H Q E h => ?_) (fun cdv A' outer s H vs Q E hr h => ?_)
  · obtain ⟨d, w, ns, hk, wt, kvs, rfl, _⟩ := h
    rfl
  · obtain ⟨d, w, ns, hk, wt, kvs, rfl, hd, hP, nd, hl, hqq, k⟩ := h
    refine ⟨_, (pss_cons (ps_set (i := 2) sc__law_below.nd rfl (Or.inl rfl) (pe_disp (pps_cons pe_str (pe_tup (pa_cons pe_str (pa_cons (pv 1) pa_nil))) pps_nil) (by rfl) (by rfl) (fun z => by cases z) (by decide)))
 (pss_cons (ps_lock (ps_for PassesOwn.never rfl (pi_keys (pv 0)) (pg_name (i := 3) sc__law_below.nd rfl (Or.inl rfl))
 (pss_one (ps_dput (hu_of hr) (pv 2) (pv 3) (pe_tup (pa_cons (pe_ifExp (pt_cmpR op_eq (pe_ix ix_tup (pe_dget (hu_of hr) (pv 0) (pv 3) (fun _ _ => rfl)) pe_int (fun _ _ => rfl)) pe_str (nomark _)) pe_str (pe_ix ix_tup (pe_dget (hu_of hr) (pv 0) (pv 3) (fun _ _ => rfl)) pe_int (fun _ _ => rfl))) (pa_cons (pe_ix ix_tup (pe_dget (hu_of hr) (pv 0) (pv 3) (fun _ _ => rfl)) pe_int (fun _ _ => rfl)) pa_nil))) rfl))))
 (pss_one (ps_ret (pv 2))))), ?_⟩
    intro p np
    refine ⟨_, rfl, by show 2 ≤ sizeLine; decide, fun t nt => ⟨Same.new nt _ _ upd_same, [(.inr "qq", .ref t)], rfl, by show 1 ≤ 15; decide, ?_⟩⟩
    have ndp : d ≠ p := ne_of_none hd np
    have s1 : Same H (upd (upd (upd H p (.dK [])) t (.tup [.str "clock", .int w])) p (.dK [(.inr "qq", .ref t)])) := fun b u e => by
      rw [upd_ne (ne_of_none e np)]; exact Same.new nt _ _ (Same.new np _ _ e)
    have ntp : t ≠ p := fun e => by rw [e, upd_same] at nt; cases nt
    have h1 : upd (upd (upd H p (.dK [])) t (.tup [.str "clock", .int w])) p (.dK [(.inr "qq", .ref t)]) p = some (.dK [(.inr "qq", .ref t)]) := upd_same
    have h2 : upd (upd (upd H p (.dK [])) t (.tup [.str "clock", .int w])) p (.dK [(.inr "qq", .ref t)]) t = some (.tup [.str "clock", .int w]) := by rw [upd_ne ntp, upd_same]
    refine cast_heap (b := upd (upd (upd H p (.dK [])) t (.tup [.str "clock", .int w])) p (.dK [(.inr "qq", .ref t)])) rfl ?_
    generalize upd (upd (upd H p (.dK [])) t (.tup [.str "clock", .int w])) p (.dK [(.inr "qq", .ref t)]) = H1 at s1 h1 h2 ⊢
    have hd1 := s1 _ _ hd
    refine ⟨d, _, hd1, trivial, fun od => ?_⟩
    have hPe := hP.er hd (noTup_dK _)
    have f1 : upd H1 d (.frz od (.dK kvs)) p = some (.dK [(.inr "qq", .ref t)]) := by rw [upd_ne ndp.symm]; exact h1
    have ndt : d ≠ t := fun e => by rw [e] at hd1; rw [h2] at hd1; cases hd1
    have f2 : upd H1 d (.frz od (.dK kvs)) t = some (.tup [.str "clock", .int w]) := by rw [upd_ne ndt.symm]; exact h2
    have sF : Same (er H d) (upd H1 d (.frz od (.dK kvs))) := (er_mono s1).trans frz_er
    refine ⟨_, rfl, d, od, rfl, .inl ⟨kvs, upd_same, for_it walk_keys (fun i σ' H' => ∃ x kvs', σ' = [some (.ref d), some (.int w), some (.ref p), x] ∧ Same (er H d) H' ∧ H' d = some (.frz od (.dK kvs)) ∧ H' p = some (.dK kvs') ∧ Pr2 K H' ("qq" :: ns.take i) (fun n => .str (hkB hk n)) (fun n => .int (inB w wt n)) kvs')
      ⟨_, _, rfl, sF, upd_same, f1, ?_⟩ (fun i σ' H' _ ⟨_, _, _, _, z, _⟩ => z) ?_ ?_⟩⟩
    · exact Pr2.snoc (ns := []) Pr2.nil (SqT.of f2)
    · rintro i x σ' H' H'' hi ⟨y, kvs', rfl, s2, hd2, hp2, hR⟩ ⟨rfl, key, v, hkv, rfl⟩
      obtain ⟨hi1, a0, rfl, rfl, _⟩ := hP.get hkv
      have hm := List.getElem_mem hi1
      obtain ⟨a, hv, hq0⟩ := hPe.val nd hm
      have hq := stUp hq0 s2
      have nq : ns[i] ≠ "qq" := fun e => hqq (by rw [← e]; exact hm)
      have e1 : ns.take (i + 1) = ns.take i ++ [ns[i]] := by rw [List.take_succ, List.getElem?_eq_getElem hi1]; rfl
      have hkn : (Sum.inr ns[i] : Key) ∉ kvs'.map (·.1) := by
        rw [hR.keys]
        intro m
        obtain ⟨z, hz, ez⟩ := List.mem_map.mp m
        cases Sum.inr.inj ez
        rcases List.mem_cons.mp hz with z | z
        · exact nq z
        · exact not_in_take nd hi1 z
      have fin : ∀ (x : Str) (t2 : Addr), x = hkB hk ns[i] → H'' t2 = none → (p' : Addr) → p' = p → 
          ∃ y kvs'', [some (V.ref d), some (.int w), some (.ref p), some (.str ns[i])] = [some (V.ref d), some (.int w), some (.ref p), y] ∧ Same (er H d) (upd (upd H'' t2 (.tup [.str x, .int (wt ns[i])])) p (.dK (putK kvs' (.inr ns[i]) (.ref t2)))) ∧ upd (upd H'' t2 (.tup [.str x, .int (wt ns[i])])) p (.dK (putK kvs' (.inr ns[i]) (.ref t2))) d = some (.frz od (.dK kvs)) ∧
            upd (upd H'' t2 (.tup [.str x, .int (wt ns[i])])) p (.dK (putK kvs' (.inr ns[i]) (.ref t2))) p = some (.dK kvs'') ∧ Pr2 K (upd (upd H'' t2 (.tup [.str x, .int (wt ns[i])])) p (.dK (putK kvs' (.inr ns[i]) (.ref t2)))) ("qq" :: ns.take (i + 1)) (fun n => .str (hkB hk n)) (fun n => .int (inB w wt n)) kvs'' := fun x t2 ex nt2 _ _ => by
        refine ⟨_, _, rfl, fun b u e => ?_, ?_, upd_same, ?_⟩
        · rw [upd_ne (ne_of_none (er_some e).2 np)]; exact Same.new nt2 _ _ (s2 _ _ e)
        · rw [upd_ne ndp]; exact Same.new nt2 _ _ hd2
        · rw [put_new _ _ _ hkn, e1]
          have hp3 : upd H'' t2 (.tup [.str x, .int (wt ns[i])]) p = some (.dK kvs') := Same.new nt2 _ _ hp2
          refine Pr2.snoc (ns := "qq" :: ns.take i) ((hR.up (Same.new nt2)).set hp3 (noTup_dK _)) ?_
          show SqT K _ t2 [.str (hkB hk ns[i]), .int (inB w wt ns[i])]
          rw [inB_ne nq, ← ex]
          exact tupSet hp3 (noTup_dK _) (SqT.of upd_same)
      refine ⟨_, rfl, _, rfl, d, .ref a, rfl, .inl ⟨kvs, .inr ns[i], .inr ⟨od, hd2⟩, rfl, hv.symm⟩, _, _, _, _, rfl, rfl, hq, rfl, rfl, _, rfl, ?_⟩
      refine ite2 (fun c1 => ?_) (fun c1 => ?_)
      · have ec : hk ns[i] = "clock" := V.str.inj (of_decide_eq_true c1)
        refine ⟨_, rfl, _, rfl, d, .ref a, rfl, .inl ⟨kvs, .inr ns[i], .inr ⟨od, hd2⟩, rfl, hv.symm⟩, _, _, _, _, rfl, rfl, hq, rfl, by show 2 ≤ sizeLine; decide, fun t2 nt2 => ?_⟩
        refine ⟨_, rfl, _, rfl, p, _, rfl, .inl ⟨kvs', .inr ns[i], Same.new nt2 _ _ hp2, rfl, ?_, rfl⟩, fin "qq" t2 (by rw [hkB_ne nq, if_pos ec]) nt2 p rfl⟩
        rw [hR.len, List.length_cons, List.length_take]
        exact Nat.lt_of_le_of_lt (show min i _ + 1 ≤ 64 by omega) (by decide)
      · have ec : ¬ hk ns[i] = "clock" := fun e => c1 (decide_eq_true (by rw [e]))
        refine ⟨_, rfl, _, rfl, d, .ref a, rfl, .inl ⟨kvs, .inr ns[i], .inr ⟨od, hd2⟩, rfl, hv.symm⟩, _, _, _, _, rfl, rfl, hq, rfl, ?_⟩
        refine ⟨_, rfl, _, rfl, d, .ref a, rfl, .inl ⟨kvs, .inr ns[i], .inr ⟨od, hd2⟩, rfl, hv.symm⟩, _, _, _, _, rfl, rfl, hq, rfl, by show 2 ≤ sizeLine; decide, fun t2 nt2 => ?_⟩
        refine ⟨_, rfl, _, rfl, p, _, rfl, .inl ⟨kvs', .inr ns[i], Same.new nt2 _ _ hp2, rfl, ?_, rfl⟩, fin (hk ns[i]) t2 (by rw [hkB_ne nq, if_neg ec]) nt2 p rfl⟩
        rw [hR.len, List.length_cons, List.length_take]
        exact Nat.lt_of_le_of_lt (show min i _ + 1 ≤ 64 by omega) (by decide)
    · rintro σ' H' ⟨x, kvs', rfl, s2, hd2, hp2, hR⟩
      rw [hP.len, List.take_length] at hR
      refine ⟨hd2, _, rfl, k p _ kvs' (fun b u e => ?_) np (by rw [upd_ne ndp.symm]; exact hp2) (hR.set hd2 ⟨fun _ z => (nomatch z), fun _ _ z => (nomatch z)⟩)⟩
      by_cases hb : b = d
      · subst hb; rw [upd_same]; rw [hd] at e; exact e
      · rw [upd_ne hb]; exact s2 _ _ (er_of hb e)
def moreM (a b : Mo) (w bl bm : Int) : Int := if a.isC = b.isC then 0 else if a.isC = true then w + bm else 0 - w - bl
def spMore (K : PySem.W.Frag) : Sp := fun vs H Q _ => ∃ (v1 v2 : V) (t : Addr) (a b : Mo) (ys : List Str) (w bl bm : Int), vs = [v1, v2, .int w, .ref t] ∧ Dp K H v1 a.d ∧ Dp K H v2 b.d ∧ a.on ys ∧ b.on ys ∧ (∀ n ∈ ys, PyData.strOk n = true) ∧ SqT K H t [.int bl, .int bm] ∧ Q (.int (moreM a b w bl bm)) H
theorem ok_more (T : Txt K mg A) : FnOk P w K mg base CX0 1 A.a__law_more A.d__law_more P__law_more (spMore K) := by
  refine T.f__law_more.ok sc__law_more (fun vs H Q E h => ?_) (fun cdv A' outer s H vs Q E hr h => ?_)
  · obtain ⟨v1, v2, t, a, b, ys, w, bl, bm, rfl, _⟩ := h
    rfl
  · obtain ⟨v1, v2, t, a, b, ys, w, bl, bm, rfl, ha, hb, aon, bon, ok, ht, k⟩ := h
    refine ⟨_, (pss_cons (ps_if (pt_cmpR op_eq (pe_cmpR (op_eqD hr.units) (pv 0) pe_str (nomark _)) (pe_cmpR (op_eqD hr.units) (pv 1) pe_str (nomark _)) (nomark _))
 (pss_one (ps_ret pe_int))
 pss_nil)
 (pss_one (ps_ret (pe_ifExp (pt_cmpR (op_eqD hr.units) (pv 0) pe_str (nomark _)) (pe_op op_add (pv 2) (pe_ix ix_tup (pv 3) pe_int (fun _ _ => rfl))) (pe_op op_sub (pe_op op_sub pe_int (pv 2)) (pe_ix ix_tup (pv 3) pe_int (fun _ _ => rfl))))))), ?_⟩
    refine ⟨_, rfl, _, _, ha, .str _, mo_shaped aon ok, by decide +kernel, ?_⟩
    rw [mo_eqv]
    refine ⟨_, rfl, _, _, hb, .str _, mo_shaped bon ok, by decide +kernel, ?_⟩
    rw [mo_eqv]
    refine ⟨rfl, _, rfl, ?_⟩
    unfold moreM at k
    refine ite2 (fun c1 => ?_) (fun c1 => ?_)
    · have e : a.isC = b.isC := V.bl.inj (of_decide_eq_true c1)
      rw [if_pos e] at k
      exact k
    · have e : ¬ a.isC = b.isC := fun e => c1 (decide_eq_true (by rw [e]))
      rw [if_neg e] at k
      refine ⟨_, rfl, _, _, ha, .str _, mo_shaped aon ok, by decide +kernel, _, rfl, ?_⟩
      rw [mo_eqv]
      refine ite2 (fun c2 => ?_) (fun c2 => ?_)
      · rw [if_pos c2] at k
        exact ⟨_, rfl, _, rfl, _, _, _, _, rfl, rfl, ht, rfl, _, _, rfl, rfl, k⟩
      · rw [if_neg c2] at k
        exact ⟨_, rfl, _, _, rfl, rfl, _, rfl, _, _, _, _, rfl, rfl, ht, rfl, _, _, rfl, rfl, k⟩
end
end K5
set_option Elab.async false
set_option linter.all false
set_option maxRecDepth 100000
set_option maxHeartbeats 4000000
namespace K5
open PySem L2
local macro_rules | `(tactic| walk_at "rd1") => `(tactic| first
  | refine ⟨_, _, rfl, rfl, ?_⟩
  | refine ⟨_, _, _, _, rfl, rfl, SqL.of (by assumption), rfl, ?_⟩
  | refine ⟨_, _, _, _, rfl, rfl, (by assumption), rfl, ?_⟩
  | refine .inl ⟨_, rfl, ?_⟩
  | refine ⟨_, rfl, ?_⟩
  | refine ⟨(by unfold CMul; omega), ?_⟩
  | refine ⟨(by unfold CPow; omega), ?_⟩
  | refine ⟨(by (try dsimp only); omega), ?_⟩
  | refine ⟨(by unfold CDiv; omega), ?_⟩
  | fail "rd1")
local macro_rules | `(tactic| walk_at "rd") => `(tactic| repeat' (walk_at "rd1"))
section
variable {P : Program} {w : World} {K : PySem.W.Frag} {mg : Str → Option Value} {base : Heap} {A : Ad}

abbrev qq : Str := "qq"

theorem Path.mono {rs rows : Rows} (f : ∀ k h, (k, h) ∈ rs → (k, h) ∈ rows) : ∀ {h : Str} {ws : List Str}, Path rs h ws → Path rows h ws
  | _, _, .clock => .clock
  | _, _, .step ne m r => .step ne (f _ _ m) (r.mono f)
theorem Path.mem {rows : Rows} : ∀ {h : Str} {ws : List Str}, Path rows h ws → ∀ x ∈ ws, x ∈ ksR rows
  | _, _, .clock, x, m => by cases m
  | _, _, .step ne m r, x, hx => by
    rcases List.mem_cons.mp hx with e | hx
    · rw [e]; exact memK m
    · exact r.mem x hx
theorem ROk.perm {rk : Str → Nat} {ns ys : List Str} {hk : Str → Str} (h : ROk rk (rowsF ns hk)) (p : ys.Perm ns) : ROk rk (rowsF ys hk) := by
  have nd : ns.Nodup := by have := h.nd; rwa [ksR_F] at this
  have hl : ns.length < 64 := by have := h.len; rwa [← ksR_len, ksR_F] at this
  have up : ∀ k x, (k, x) ∈ rowsF ys hk → (k, x) ∈ rowsF ns hk := fun k x m => by
    obtain ⟨m1, e⟩ := of_mem_F m
    rw [e]; exact mem_F (p.mem_iff.mp m1)
  refine ⟨by rw [ksR_F]; exact p.nodup_iff.mpr nd, fun s m => h.nm s ?_, ?_, fun k x m => (h.acy k x (up k x m)).imp_right fun e => ⟨?_, e.2⟩, fun s m => h.rkb s ?_⟩
  · rw [ksR_F] at m ⊢; exact p.mem_iff.mp m
  · rw [← ksR_len, ksR_F, p.length_eq]; exact hl
  · have := e.1
    rw [ksR_F] at this ⊢; exact p.mem_iff.mpr this
  · rw [ksR_F] at m ⊢; exact p.mem_iff.mp m
/-- ways there are -/
theorem ways_ex {rk : Str → Nat} {ys : List Str} {hk : Str → Str} (h : ROk rk (rowsF ys hk)) : ∃ W : Str → List Str, WaysOk ys hk W := by
  have ex : ∀ n : Str, ∃ ws : List Str, n ∈ ys → Way (rowsF ys hk) n ws := fun n => by
    by_cases m : n ∈ ys
    · obtain ⟨ws, hw⟩ := way_ex h (nm := n) (by rw [ksR_F]; exact m)
      exact ⟨ws, fun _ => hw⟩
    · exact ⟨[], fun m2 => absurd m2 m⟩
  refine ⟨fun n => (ex n).choose.reverse, fun n m => ?_⟩
  have hw := (ex n).choose_spec m
  refine ⟨by rw [List.reverse_reverse]; exact hw, fun x hx => ?_⟩
  obtain ⟨h2, _, pa, _⟩ := hw
  have := pa.mem x (List.mem_reverse.mp hx)
  rwa [ksR_F] at this
theorem tree_B {ns : List Str} {hk : Str → Str} (t : Tree (rowsF ns hk)) (hqq : qq ∉ ns) : Tree (rowsF (qq :: ns) (hkB hk)) := by
  intro i k h e
  cases i with
  | zero =>
    cases e
    exact .inl (show hkB hk qq = "clock" from if_pos rfl)
  | succ i =>
    have e1 : (rowsF ns (hkB hk))[i]? = some (k, h) := e
    unfold rowsF at e1
    rw [List.getElem?_map] at e1
    cases e2 : ns[i]? with
    | none => rw [e2] at e1; cases e1
    | some n =>
      rw [e2] at e1
      cases e1
      have nq : k ≠ qq := fun z => hqq (by rw [← z]; exact List.mem_of_getElem? e2)
      have ks : ksR ((rowsF (qq :: ns) (hkB hk)).take (i + 1)) = qq :: ns.take i := by
        have : ksR ((rowsF (qq :: ns) (hkB hk)).take (i + 1)) = (ksR (rowsF (qq :: ns) (hkB hk))).take (i + 1) := by unfold ksR; rw [List.map_take]
        rw [this, ksR_F]; rfl
      rw [ks, hkB_ne nq]
      by_cases c : hk k = "clock"
      · rw [if_pos c]; exact .inr (List.mem_cons_self ..)
      · rw [if_neg c]
        have := t i k (hk k) (by unfold rowsF; rw [List.getElem?_map, e2]; rfl)
        refine .inr (List.mem_cons_of_mem _ ?_)
        have m := this.resolve_left c
        have ks2 : ksR ((rowsF ns hk).take i) = ns.take i := by
          have : ksR ((rowsF ns hk).take i) = (ksR (rowsF ns hk)).take i := by unfold ksR; rw [List.map_take]
          rw [this, ksR_F]
        rwa [ks2] at m
def WB (W : Str → List Str) (n : Str) : List Str := if n = qq then [] else qq :: W n
theorem WB_ne {W : Str → List Str} {n : Str} (h : n ≠ qq) : WB W n = qq :: W n := if_neg h
theorem path_B {ns : List Str} {hk : Str → Str} (hqq : qq ∉ ns) : ∀ {h : Str} {ws : List Str}, Path (rowsF ns hk) h ws → Path (rowsF (qq :: ns) (hkB hk)) (if h = "clock" then qq else h) (ws ++ [qq])
  | _, _, .clock => by
    rw [if_pos rfl]
    exact .step (by decide +kernel) (mem_F (hk := hkB hk) (List.mem_cons_self ..)) (by rw [show hkB hk qq = "clock" from if_pos rfl]; exact .clock)
  | h, _, .step (h2 := h2) ne m r => by
    rw [if_neg ne]
    obtain ⟨m1, e⟩ := of_mem_F m
    have nq : h ≠ qq := fun z => hqq (by rw [← z]; exact m1)
    refine .step ne (mem_F (hk := hkB hk) (List.mem_cons_of_mem _ m1)) ?_
    rw [hkB_ne nq, ← e]
    exact path_B hqq r
theorem ways_B {rk2 : Str → Nat} {ns ys zs : List Str} {hk : Str → Str} {W : Str → List Str} (hqq : qq ∉ ns) (py : ys.Perm ns) (pz : zs.Perm (qq :: ns)) (hW : WaysOk ys hk W) (OB : ROk rk2 (rowsF zs (hkB hk))) : WaysOk zs (hkB hk) (WB W) := by
  have up : ∀ k x, (k, x) ∈ rowsF (qq :: ns) (hkB hk) → (k, x) ∈ rowsF zs (hkB hk) := fun k x m => by
    obtain ⟨m1, e⟩ := of_mem_F m
    rw [e]; exact mem_F (pz.mem_iff.mpr m1)
  have dn : ∀ k x, (k, x) ∈ rowsF ys hk → (k, x) ∈ rowsF ns hk := fun k x m => by
    obtain ⟨m1, e⟩ := of_mem_F m
    rw [e]; exact mem_F (py.mem_iff.mp m1)
  intro n hn
  have key : ∃ h : Str, (n, h) ∈ rowsF zs (hkB hk) ∧ Path (rowsF zs (hkB hk)) h (WB W n).reverse := by
    refine ⟨hkB hk n, mem_F hn, ?_⟩
    rcases List.mem_cons.mp (pz.mem_iff.mp hn) with e | m
    · subst e
      rw [show hkB hk qq = "clock" from if_pos rfl, show WB W qq = [] from if_pos rfl]; exact .clock
    · have nq : n ≠ qq := fun z => hqq (by rw [← z]; exact m)
      obtain ⟨⟨h, mh, pa, _⟩, _⟩ := hW n (py.mem_iff.mpr m)
      obtain ⟨_, e⟩ := of_mem_F mh
      rw [hkB_ne nq, WB_ne nq, List.reverse_cons, ← e]
      exact (path_B hqq (pa.mono dn)).mono up
  obtain ⟨h, m, pa⟩ := key
  obtain ⟨ws, h2, m2, pa2, hl⟩ := way_ex OB (nm := n) (by rw [ksR_F]; exact hn)
  have eh : h = h2 := (of_mem_F m).2.trans (of_mem_F m2).2.symm
  subst eh
  have ew := Path.det OB.nd pa pa2
  refine ⟨⟨h, m, pa, by rw [ew]; exact hl⟩, fun x hx => ?_⟩
  have := pa.mem x (List.mem_reverse.mpr hx)
  rwa [ksR_F] at this
/-! ### the reckoning -/
theorem wayB {W : Str → List Str} {ns : List Str} (hqq : qq ∉ ns) {o : Mo} (on : o.on ns) : wayM (WB W) o = if o.isC = true then [] else qq :: wayM W o := by
  cases o with
  | clock => rfl
  | edge b n =>
    have nq : n ≠ qq := fun z => hqq (by rw [← z]; exact on)
    show (if b = true then WB W n ++ [n] else WB W n) = qq :: (if b = true then W n ++ [n] else W n)
    rw [WB_ne nq]
    cases b <;> rfl
theorem map_inB {α : Type} {x : α} {f : Str → α} : ∀ {l : List Str}, qq ∉ l → l.map (inB x f) = l.map f
  | [], _ => rfl
  | a :: l, h => by
    rw [List.map_cons, List.map_cons, map_inB fun m => h (List.mem_cons_of_mem _ m), inB_ne fun e => h (by rw [e]; exact List.mem_cons_self ..)]
theorem sumB {W : Str → List Str} {ns : List Str} {wt : Str → Int} {w : Int} (hqq : qq ∉ ns) {o : Mo} (on : o.on ns) (hW : ∀ n ∈ ns, qq ∉ W n) : sumM (WB W) (inB w wt) o = if o.isC = true then 0 else w + sumM W wt o := by
  cases o with
  | clock => rfl
  | edge b n =>
    have nq : n ≠ qq := fun z => hqq (by rw [← z]; exact on)
    show inB w wt n + ((WB W n).map (inB w wt)).sum = w + (wt n + ((W n).map wt).sum)
    rw [WB_ne nq, inB_ne nq, List.map_cons, inB_qq, map_inB (hW n on), List.sum_cons]
    omega
theorem filt_cons {a b : List Str} (ha : qq ∉ a) : ((qq :: a).filter fun n => decide (n ∉ qq :: b)) = a.filter fun n => decide (n ∉ b) := by
  rw [List.filter_cons, if_neg (by simp)]
  refine List.filter_congr fun n m => ?_
  have nq : n ≠ qq := fun z => ha (by rw [← z]; exact m)
  simp [nq]
theorem filt_nil (a : List Str) : (a.filter fun n => decide (n ∉ ([] : List Str))) = a := by
  rw [List.filter_eq_self]
  intro n _
  simp
theorem mb_B {W : Str → List Str} {ns : List Str} {wt lo hi : Str → Int} {w bl bm : Int} (hqq : qq ∉ ns) {a b : Mo} (aon : a.on ns) (bon : b.on ns) (hW : ∀ n ∈ ns, qq ∉ W n) :
    mbM (WB W) (inB w wt) (inB bl lo) (inB bm hi) a b = mbM W wt lo hi a b + moreM a b w bl bm := by
  have hwq : ∀ o : Mo, o.on ns → qq ∉ wayM W o := fun o on => by
    cases o with
    | clock => exact fun m => by cases m
    | edge c n =>
      show qq ∉ (if c = true then W n ++ [n] else W n)
      have h1 := hW n on
      cases c with
      | false => exact h1
      | true =>
        intro m
        rcases List.mem_append.mp (show qq ∈ W n ++ [n] from m) with m | m
        · exact h1 m
        · exact hqq (by rw [List.mem_singleton.mp m]; exact on)
  have qa := hwq a aon
  have qb := hwq b bon
  unfold mbM sprM
  rw [sumB hqq aon hW, sumB hqq bon hW, wayB hqq aon, wayB hqq bon]
  have sub : ∀ {l : List Str} (p : Str → Bool), qq ∉ l → qq ∉ l.filter p := fun p h m => h (List.mem_filter.mp m).1
  cases a with
  | clock =>
    cases b with
    | clock => rfl
    | edge c n =>
      show (w + sumM W wt (.edge c n)) - 0 + ((((qq :: wayM W (.edge c n)).filter fun n => decide (n ∉ ([] : List Str))).map (inB bm hi)).sum - 0) = (sumM W wt (.edge c n) - 0 + ((((wayM W (.edge c n)).filter fun n => decide (n ∉ ([] : List Str))).map hi).sum - 0)) + (w + bm)
      rw [filt_nil, filt_nil, List.map_cons, List.sum_cons, inB_qq, map_inB qb]
      omega
  | edge c n =>
    cases b with
    | clock =>
      show 0 - (w + sumM W wt (.edge c n)) + (0 - ((((qq :: wayM W (.edge c n)).filter fun n => decide (n ∉ ([] : List Str))).map (inB bl lo)).sum)) = (0 - sumM W wt (.edge c n) + (0 - (((wayM W (.edge c n)).filter fun n => decide (n ∉ ([] : List Str))).map lo).sum)) + (0 - w - bl)
      rw [filt_nil, filt_nil, List.map_cons, List.sum_cons, inB_qq, map_inB qa]
      omega
    | edge c2 n2 =>
      show (w + sumM W wt (.edge c2 n2)) - (w + sumM W wt (.edge c n)) + ((((qq :: wayM W (.edge c2 n2)).filter fun n1 => decide (n1 ∉ qq :: wayM W (.edge c n))).map (inB bm hi)).sum - (((qq :: wayM W (.edge c n)).filter fun n1 => decide (n1 ∉ qq :: wayM W (.edge c2 n2))).map (inB bl lo)).sum) = (sumM W wt (.edge c2 n2) - sumM W wt (.edge c n) + ((((wayM W (.edge c2 n2)).filter fun n1 => decide (n1 ∉ wayM W (.edge c n))).map hi).sum - (((wayM W (.edge c n)).filter fun n1 => decide (n1 ∉ wayM W (.edge c2 n2))).map lo).sum)) + 0
      rw [filt_cons qb, filt_cons qa, map_inB (sub _ qb), map_inB (sub _ qa)]
      omega
theorem sl_B {W : Str → List Str} {ns : List Str} {wt lo hi : Str → Int} {w bl bm : Int} (hqq : qq ∉ ns) {x : Mo × Mo × Int} (aon : x.1.on ns ∧ x.2.1.on ns) (hW : ∀ n ∈ ns, qq ∉ W n) :
    slM (WB W) (inB w wt) (inB bl lo) (inB bm hi) x = slM W wt lo hi x - moreM x.1 x.2.1 w bl bm := by
  unfold slM
  rw [mb_B hqq aon.1 aon.2 hW]
  omega
theorem Mo.on_mono {ns ys : List Str} (h : ∀ n ∈ ns, n ∈ ys) {o : Mo} (on : o.on ns) : o.on ys := by
  cases o with
  | clock => trivial
  | edge b n => exact h n on
end
end K5
set_option Elab.async false
set_option linter.all false
set_option maxRecDepth 100000
set_option maxHeartbeats 4000000
namespace K5
open PySem L2
local macro_rules | `(tactic| walk_at "rd1") => `(tactic| first
  | refine ⟨_, _, rfl, rfl, ?_⟩
  | refine ⟨_, _, _, _, rfl, rfl, SqL.of (by assumption), rfl, ?_⟩
  | refine ⟨_, _, _, _, rfl, rfl, (by assumption), rfl, ?_⟩
  | refine .inl ⟨_, rfl, ?_⟩
  | refine ⟨_, rfl, ?_⟩
  | refine ⟨(by unfold CMul; omega), ?_⟩
  | refine ⟨(by unfold CPow; omega), ?_⟩
  | refine ⟨(by (try dsimp only); omega), ?_⟩
  | refine ⟨(by unfold CDiv; omega), ?_⟩
  | fail "rd1")
local macro_rules | `(tactic| walk_at "rd") => `(tactic| repeat' (walk_at "rd1"))
section
variable {P : Program} {w : World} {K : PySem.W.Frag} {mg : Str → Option Value} {base : Heap} {A : Ad}

def spLaw (K : PySem.W.Frag) : Sp := fun vs H Q _ => ∃ (a : Addr) (ns : List Int), vs = [.ref a] ∧ SqL K H a (ns.map V.int) ∧ ns.length ≤ 63 ∧ ∀ H', Q (.bl true) H'
theorem qq_pool : qq ∉ pool := by decide +kernel
theorem three_int {r : Int} (h : 0 ≤ r) {j : Nat} {v : V} (hv : [V.int 0, .int r, .int 999999][j]? = some v) : ∃ m : Int, v = .int m ∧ 0 ≤ m := by
  have hm := List.mem_of_getElem? hv
  simp only [List.mem_cons, List.not_mem_nil, or_false] at hm
  rcases hm with e | e | e
  · exact ⟨_, e, by omega⟩
  · exact ⟨_, e, h⟩
  · exact ⟨_, e, by omega⟩
structure Fx (K : PySem.W.Frag) (CM CB : Addr) (E : Hp) (pn pw tb pm pk pl pu : Addr) (ns ys zs : List Str) (us : List V) (ws : List (Mo × Mo × Int)) (lo hi wt : Str → Int) (hk : Str → Str) (w bl bm : Int) : Prop where
  n : E pn = some (.lst (ns.map V.str))
  w1 : E pw = some (.lst us)
  w2 : DpAll K E us (ws.map wiD)
  t : SqT K E tb [.int bl, .int bm]
  m : MlAt K CM E pm ys lo hi (ws.map wiD)
  b : BkAt CB E pk ys hk wt
  l : MlAt K CM E pl zs (inB bl lo) (inB bm hi) (ws.map wiD)
  u : BkAt CB E pu zs (hkB hk) (inB w wt)
theorem Fx.up {CM CB : Addr} {E E' : Hp} {pn pw tb pm pk pl pu : Addr} {ns ys zs : List Str} {us : List V} {ws : List (Mo × Mo × Int)} {lo hi wt : Str → Int} {hk : Str → Str} {w bl bm : Int} (h : Fx K CM CB E pn pw tb pm pk pl pu ns ys zs us ws lo hi wt hk w bl bm) (s : Same E E') :
    Fx K CM CB E' pn pw tb pm pk pl pu ns ys zs us ws lo hi wt hk w bl bm := ⟨s _ _ h.n, s _ _ h.w1, dpAllSame s h.w2, stUp h.t s, h.m.up s, h.b.up s, h.l.up s, h.u.up s⟩
theorem momN_of {ns : List Str} {o : Mo} (on : o.on ns) : MomN ns o.d := by
  cases o with
  | clock => exact .clock
  | edge b n =>
    refine .edge ?_ on
    cases b
    · exact .inl rfl
    · exact .inr rfl
theorem wshN_of {ns : List Str} {ws : List (Mo × Mo × Int)} (hon : ∀ w ∈ ws, w.1.on ns ∧ w.2.1.on ns) : ∀ d ∈ ws.map wiD, WshN ns d := fun d m => by
  obtain ⟨w, hw, e⟩ := List.mem_map.mp m
  subst e
  obtain ⟨q1, q2⟩ := hon w hw
  exact .mk (momN_of q1) (momN_of q2)
theorem MlAt.er {C : Addr} {H : Hp} {p st : Addr} {xs : List V} {ns ys : List Str} {lo hi : Str → Int} {ws : List (Mo × Mo × Int)} (h : MlAt K C H p ys lo hi (ws.map wiD)) (hon : ∀ w ∈ ws, w.1.on ns ∧ w.2.1.on ns) (hst : H st = some (.lst xs)) : MlAt K C (er H st) p ys lo hi (ws.map wiD) := by
  obtain ⟨ex0, qb, qw, qp, k1, k2, e1, e2, e3, e4, e5⟩ := h.ex
  have nL : NoTup (.lst xs) := noTup_lst _
  have ne : ∀ {b : Addr} {u : HO}, H b = some u → (∀ xs, u ≠ .lst xs) → b ≠ st := fun e h z => by rw [z, hst] at e; exact h _ (Option.some.inj e).symm
  exact ⟨ex0, qb, qw, qp, k1, k2, er_of (ne e1 fun _ z => nomatch z) e1, er_of (ne e2 fun _ z => nomatch z) e2, e3.er hst nL, tupEr hst nL e4, wshnAll (ns := ns) hst nL (Same.refl _) e5 (wshN_of hon)⟩
theorem BkAt.er {C : Addr} {H : Hp} {p st : Addr} {xs : List V} {ys : List Str} {hk : Str → Str} {wt : Str → Int} (h : BkAt C H p ys hk wt) (hst : H st = some (.lst xs)) : BkAt C (er H st) p ys hk wt := by
  obtain ⟨dx, qh, qw, e1, e2, e3⟩ := h.ex
  have ne : ∀ {b : Addr} {u : HO}, H b = some u → (∀ xs, u ≠ .lst xs) → b ≠ st := fun e h z => by rw [z, hst] at e; exact h _ (Option.some.inj e).symm
  exact ⟨dx, qh, qw, er_of (ne e1 fun _ z => nomatch z) e1, er_of (ne e2 fun _ z => nomatch z) e2, er_of (ne e3 fun _ z => nomatch z) e3⟩
theorem Sta.lst {H : Hp} {st c : Addr} {b : Int} (h : Sta H st c b) : ∃ xs, H st = some (.lst xs) := by
  obtain ⟨cs, i0, l0, m0, n0, st1, _⟩ := h.ex
  exact ⟨_, st1⟩
theorem dpInts {H : Hp} : ∀ is : List Int, DpAll K H (is.map V.int) (is.map PyData.int)
  | [] => .nil
  | i :: is => .cons (.int i) (dpInts is)
theorem ints_depth : ∀ is : List Int, PyData.depthAll (is.map PyData.int) = 0
  | [] => by simp [PyData.depthAll]
  | i :: is => by simp only [List.map_cons, PyData.depthAll, PyData.depth, ints_depth is]; rfl
theorem ints_wid : ∀ is : List Int, widAll (is.map PyData.int) = true
  | [] => rfl
  | i :: is => by rw [List.map_cons, widAll, ints_wid is]; rfl
def dueM (W : Str → List Str) (wt lo hi : Str → Int) (w bl bm : Int) (x : Mo × Mo × Int) : Int := slM W wt lo hi x - moreM x.1 x.2.1 w bl bm
theorem asc_uniq {xs ys : List Str} (p : xs.Perm ys) (hx : PyProof.Rows.sortedS xs = true) (hy : PyProof.Rows.sortedS ys = true) : xs = ys :=
  p.eq_of_pairwise (fun _ _ _ _ a b => sle_anti a b) (sle_sorted hx) (sle_sorted hy)
theorem wish_kvs {ns : List Str} {kvs : List (Key × V)} {ws : List (Mo × Mo × Int)} (hon : ∀ w ∈ ws, w.1.on ns ∧ w.2.1.on ns) (hk : ∀ n ∈ ns, (valV kvs (.inr n)).isSome = true ∧ PyData.strOk n = true) : ∀ d ∈ ws.map wiD, Wsh kvs d := fun d m => by
  obtain ⟨w, hw, e⟩ := List.mem_map.mp m
  subst e
  obtain ⟨q1, q2⟩ := hon w hw
  exact .mk (mo_mom q1 hk) (mo_mom q2 hk)
theorem ok_law (T : Txt K mg A) : FnOk P w K mg base CX0 10 A.a_law A.d_law P_law (spLaw K) := by
  have G__law_fresh : FnOk P w K mg base CX0 1 A.a__law_fresh A.d__law_fresh P__law_fresh (spFresh K) := ok_fresh T
  have G__law_take : FnOk P w K mg base CX0 1 A.a__law_take A.d__law_take P__law_take spTake := ok_take T
  have G__law_one : FnOk P w K mg base CX0 2 A.a__law_one A.d__law_one P__law_one (spOne K) := ok_one T
  have G__law_names : FnOk P w K mg base CX0 3 A.a__law_names A.d__law_names P__law_names (spNames K) := ok_names T
  have G__law_dishes : FnOk P w K mg base CX0 3 A.a__law_dishes A.d__law_dishes P__law_dishes (spDishes K) := ok_dishes T
  have G__law_wishes : FnOk P w K mg base CX0 4 A.a__law_wishes A.d__law_wishes P__law_wishes (spWishL K) := ok_wishl T
  have G__law_moment : FnOk P w K mg base CX0 3 A.a__law_moment A.d__law_moment P__law_moment (spMomN K) := ok_momn T
  have G__law_hung : FnOk P w K mg base CX0 3 A.a__law_hung A.d__law_hung P__law_hung (spHung K) := ok_hung T
  have G__law_waiting : FnOk P w K mg base CX0 2 A.a__law_waiting A.d__law_waiting P__law_waiting (spWaiting K) := ok_waiting T
  have G__law_with : FnOk P w K mg base CX0 1 A.a__law_with A.d__law_with P__law_with spWith := ok_with T
  have G__law_below : FnOk P w K mg base CX0 1 A.a__law_below A.d__law_below P__law_below (spBelow K) := ok_below T
  have G__law_more : FnOk P w K mg base CX0 1 A.a__law_more A.d__law_more P__law_more (spMore K) := ok_more T
  have G__law_same : FnOk P w K mg base CX0 2 A.a__law_same A.d__law_same P__law_same (spSame K 2) := ok_same T 2
  have G_Meal___init__ : FnOk P w K mg base CX0 5 A.a_Meal___init__ A.d_Meal___init__ P_Meal___init__ (spInit K A.a_Meal) := ok_init T
  have G_Book___init__ : FnOk P w K mg base CX0 5 A.a_Book___init__ A.d_Book___init__ P_Book___init__ (spBInit K A.a_Book) := ok_binit T
  have G_slacks : FnOk P w K mg base CX0 8 A.a_slacks A.d_slacks P_slacks (spSlacks K A.a_Meal A.a_Book) := ok_slacks T
  have G_most_behind : FnOk P w K mg base CX0 7 A.a_most_behind A.d_most_behind P_most_behind (spMost K A.a_Meal A.a_Book) := ok_most T
  obtain ⟨dsM, vM, bM⟩ := T.b_Meal___init__
  refine T.f_law.ok sc_law (fun vs H Q E h => ?_) (fun cdv A' outer s H vs Q E hr h => ?_)
  · obtain ⟨a, ns, rfl, _⟩ := h
    rfl
  · obtain ⟨a, ns, rfl, hS, hlen, k⟩ := h
    refine ⟨_, (pss_cons (ps_set (i := 1) sc_law.nd rfl (Or.inl rfl) (pe_call G__law_fresh (hr.mono (by omega)) (by rfl) T.g__law_fresh T.f__law_fresh.kp T.b__law_fresh .nil pass0 (pa_cons (pv 0) pa_nil)))
 (pss_cons (ps_for PassesOwn.never rfl (pi_range1 (by rfl) T.range (pa_cons pe_int pa_nil)) (pg_name (i := 2) sc_law.nd rfl (Or.inl rfl))
 (pss_cons (ps_set (i := 3) sc_law.nd rfl (Or.inl rfl) (pe_call G__law_names (hr.mono (by omega)) (by rfl) T.g__law_names T.f__law_names.kp T.b__law_names .nil pass0 (pa_cons (pv 1) (pa_cons (pe_call G__law_take (hr.mono (by omega)) (by rfl) T.g__law_take T.f__law_take.kp T.b__law_take .nil pass0 (pa_cons (pv 1) (pa_cons pe_int pa_nil))) pa_nil))))
 (pss_cons (ps_par (i := 4) (j := 5) (by rfl) sc_law.nd rfl rfl (by decide) rfl rfl (pa_cons (pe_call G__law_dishes (hr.mono (by omega)) (by rfl) T.g__law_dishes T.f__law_dishes.kp T.b__law_dishes .nil pass0 (pa_cons (pv 1) (pa_cons (pv 3) (pa_cons pe_int pa_nil)))) (pa_cons (pe_call G__law_wishes (hr.mono (by omega)) (by rfl) T.g__law_wishes T.f__law_wishes.kp T.b__law_wishes .nil pass0 (pa_cons (pv 1) (pa_cons (pv 3) (pa_cons pe_int pa_nil)))) pa_nil)) (by rfl))
 (pss_cons (ps_par (i := 6) (j := 7) (by rfl) sc_law.nd rfl rfl (by decide) rfl rfl (pa_cons (pe_call G__law_waiting (hr.mono (by omega)) (by rfl) T.g__law_waiting T.f__law_waiting.kp T.b__law_waiting .nil pass0 (pa_cons (pv 1) (pa_cons (pe_call G__law_hung (hr.mono (by omega)) (by rfl) T.g__law_hung T.f__law_hung.kp T.b__law_hung .nil pass0 (pa_cons (pv 1) (pa_cons (pv 3) pa_nil))) pa_nil))) (pa_cons (pe_call G__law_take (hr.mono (by omega)) (by rfl) T.g__law_take T.f__law_take.kp T.b__law_take .nil pass0 (pa_cons (pv 1) (pa_cons pe_int pa_nil))) pa_nil)) (by rfl))
 (pss_cons (ps_set (i := 8) sc_law.nd rfl (Or.inl rfl) (pe_op op_add pe_int (pe_call G__law_one (hr.mono (by omega)) (by rfl) T.g__law_one T.f__law_one.kp T.b__law_one .nil pass0 (pa_cons (pv 1) (pa_cons (pe_lst (pa_cons pe_int (pa_cons (pe_call G__law_take (hr.mono (by omega)) (by rfl) T.g__law_take T.f__law_take.kp T.b__law_take .nil pass0 (pa_cons (pv 1) (pa_cons pe_int pa_nil))) (pa_cons pe_int pa_nil)))) pa_nil)))))
 (pss_cons (ps_set (i := 9) sc_law.nd rfl (Or.inl rfl) (pe_tup (pa_cons (pv 8) (pa_cons (pe_op op_add (pv 8) (pe_call G__law_one (hr.mono (by omega)) (by rfl) T.g__law_one T.f__law_one.kp T.b__law_one .nil pass0 (pa_cons (pv 1) (pa_cons (pe_lst (pa_cons pe_int (pa_cons (pe_call G__law_take (hr.mono (by omega)) (by rfl) T.g__law_take T.f__law_take.kp T.b__law_take .nil pass0 (pa_cons (pv 1) (pa_cons pe_int pa_nil))) (pa_cons pe_int pa_nil)))) pa_nil)))) pa_nil))))
 (pss_cons (ps_par (i := 10) (j := 11) (by rfl) sc_law.nd rfl rfl (by decide) rfl rfl (pa_cons (pe_make T.mkM G_Meal___init__ (hr.mono (by omega)) (by rfl) T.g_Meal bM vM pass0 (pa_cons (pv 4) (pa_cons (pv 5) pa_nil))) (pa_cons (pe_make T.mkB G_Book___init__ (hr.mono (by omega)) (by rfl) T.g_Book T.b_Book___init__ .nil pass0 (pa_cons (pv 6) pa_nil)) pa_nil)) (by rfl))
 (pss_cons (ps_par (i := 12) (j := 13) (by rfl) sc_law.nd rfl rfl (by decide) rfl rfl (pa_cons (pe_make T.mkM G_Meal___init__ (hr.mono (by omega)) (by rfl) T.g_Meal bM vM pass0 (pa_cons (pe_call G__law_with (hr.mono (by omega)) (by rfl) T.g__law_with T.f__law_with.kp T.b__law_with .nil pass0 (pa_cons (pv 4) (pa_cons pe_str (pa_cons (pv 9) pa_nil)))) (pa_cons (pv 5) pa_nil))) (pa_cons (pe_make T.mkB G_Book___init__ (hr.mono (by omega)) (by rfl) T.g_Book T.b_Book___init__ .nil pass0 (pa_cons (pe_call G__law_below (hr.mono (by omega)) (by rfl) T.g__law_below T.f__law_below.kp T.b__law_below .nil pass0 (pa_cons (pv 6) (pa_cons (pv 7) pa_nil))) pa_nil)) pa_nil)) (by rfl))
 (pss_cons (ps_set (i := 14) sc_law.nd rfl (Or.inl rfl) (pe_lst pa_nil))
 (pss_cons (ps_for PassesOwn.never rfl (pi_enum (by rfl) T.enumerate (pa_cons (pe_call G_slacks (hr.mono (by omega)) (by rfl) T.g_slacks T.f_slacks.kp T.b_slacks .nil pass0 (pa_cons (pv 10) (pa_cons (pv 11) pa_nil))) pa_nil)) (pg_tup (by rfl) (pgs_cons (pg_name (i := 15) sc_law.nd rfl (Or.inl rfl)) (pgs_cons (pg_name (i := 16) sc_law.nd rfl (Or.inl rfl)) pgs_nil)))
 (pss_one (ps_expr (pe_bm PySem.F.plainAttrs_list PySem.F.slot_list_append PySem.F.type_list_append mt_append (pv 14) (pa_cons (pe_op op_sub (pv 16) (pe_call G__law_more (hr.mono (by omega)) (by rfl) T.g__law_more T.f__law_more.kp T.b__law_more .nil pass0 (pa_cons (pe_ix ix_tup (pe_ix ix_list (pv 5) (pv 15) (fun _ _ => rfl)) pe_int (fun _ _ => rfl)) (pa_cons (pe_ix ix_tup (pe_ix ix_list (pv 5) (pv 15) (fun _ _ => rfl)) pe_int (fun _ _ => rfl)) (pa_cons (pv 7) (pa_cons (pv 9) pa_nil)))))) pa_nil)))))
 (pss_cons (ps_if (pt_not (pt_val (pe_call G__law_same (hr.mono (by omega)) (by rfl) T.g__law_same T.f__law_same.kp T.b__law_same .nil pass0 (pa_cons (pe_call G_slacks (hr.mono (by omega)) (by rfl) T.g_slacks T.f_slacks.kp T.b_slacks .nil pass0 (pa_cons (pv 12) (pa_cons (pv 13) pa_nil))) (pa_cons (pv 14) pa_nil)))))
 (pss_one (ps_ret pe_bl))
 pss_nil)
 (pss_one (ps_for PassesOwn.never rfl (pi_range1 (by rfl) T.range (pa_cons pe_int pa_nil)) (pg_name (i := 17) sc_law.nd rfl (Or.inl rfl))
 (pss_cons (ps_set (i := 18) sc_law.nd rfl (Or.inl rfl) (pe_call G__law_moment (hr.mono (by omega)) (by rfl) T.g__law_moment T.f__law_moment.kp T.b__law_moment .nil pass0 (pa_cons (pv 1) (pa_cons (pv 3) pa_nil))))
 (pss_cons (ps_set (i := 19) sc_law.nd rfl (Or.inl rfl) (pe_call G__law_moment (hr.mono (by omega)) (by rfl) T.g__law_moment T.f__law_moment.kp T.b__law_moment .nil pass0 (pa_cons (pv 1) (pa_cons (pv 3) pa_nil))))
 (pss_cons (ps_set (i := 20) sc_law.nd rfl (Or.inl rfl) (pe_op op_add (pe_call G_most_behind (hr.mono (by omega)) (by rfl) T.g_most_behind T.f_most_behind.kp T.b_most_behind .nil pass0 (pa_cons (pv 10) (pa_cons (pv 11) (pa_cons (pv 18) (pa_cons (pv 19) pa_nil))))) (pe_call G__law_more (hr.mono (by omega)) (by rfl) T.g__law_more T.f__law_more.kp T.b__law_more .nil pass0 (pa_cons (pv 18) (pa_cons (pv 19) (pa_cons (pv 7) (pa_cons (pv 9) pa_nil)))))))
 (pss_one (ps_if (pt_not (pt_val (pe_call G__law_same (hr.mono (by omega)) (by rfl) T.g__law_same T.f__law_same.kp T.b__law_same .nil pass0 (pa_cons (pe_call G_most_behind (hr.mono (by omega)) (by rfl) T.g_most_behind T.f_most_behind.kp T.b_most_behind .nil pass0 (pa_cons (pv 12) (pa_cons (pv 13) (pa_cons (pv 18) (pa_cons (pv 19) pa_nil))))) (pa_cons (pv 20) pa_nil)))))
 (pss_one (ps_ret pe_bl))
 pss_nil))))))))))))))))))
 (pss_one (ps_ret pe_bl)))), ?_⟩
    refine ⟨_, rfl, a, ns, rfl, hS, fun st c H1 _ S1 => ?_⟩
    refine ⟨4, rfl, by decide, by decide, for_range (lo := 0) (n := (4 : Int).toNat) (fun i σ' H' => ∃ v2 v3 v4 v5 v6 v7 v8 v9 v10 v11 v12 v13 v14 v15 v16 v17 v18 v19 v20, σ' = [some (.ref a), some (.ref st), v2, v3, v4, v5, v6, v7, v8, v9, v10, v11, v12, v13, v14, v15, v16, v17, v18, v19, v20] ∧ Sta H' st c (2000 * (i : Int)))
      ⟨_, _, _, _, _, _, _, _, _, _, _, _, _, _, _, _, _, _, _, rfl, by simpa using S1⟩ ?_ (fun σ' H' _ => k H')⟩
    clear hS S1
    rintro i σ' H0 hi ⟨v2, v3, v4, v5, v6, v7, v8, v9, v10, v11, v12, v13, v14, v15, v16, v17, v18, v19, v20, rfl, S0⟩
    have hi4 : (i : Int) < 4 := by
      have : i < 4 := hi
      omega
    -- names
    refine ⟨_, rfl, _, rfl, st, c, 5, _, rfl, S0, by omega, by omega, by omega, fun r o hr0 hr1 S1 => ⟨st, c, _, r.toNat, ?_, S1, by omega, by omega, fun pn ns H2 hnd hpool hnl g2 hn _ => ?_⟩⟩
    · rw [show ((r.toNat : Nat) : Int) = r by omega]; rfl
    have g2 := (Gs.of_upd S1).trans g2
    have nl4 : ns.length ≤ 4 := by omega
    have nok : ∀ s ∈ ns, PyData.strOk s = true := fun s h => pool_ok s (hpool s h)
    have hqq : qq ∉ ns := fun m => qq_pool (hpool _ m)
    -- dishes, wishes
    refine ⟨_, rfl, _, rfl, st, c, pn, ns, _, 30, rfl, g2.sta, by omega, SqL.of hn, by omega, hnd, nok, by omega, by omega, fun pd ks kd H3 hpk g3 hD _ => ?_⟩
    have hn3 := g3.same _ _ hn
    have g3 := g2.trans g3
    refine ⟨_, rfl, _, rfl, st, c, pn, ns, _, 5, rfl, g3.sta, by omega, by omega, SqL.of hn3, by omega, nok, fun pw ds H4 g4 hWl hdl _ => ⟨_, _, rfl, ?_⟩⟩
    have hn4 := g4.same _ _ hn3
    have kN : ks.Nodup := hpk.nodup_iff.mpr hnd
    obtain ⟨lo, hi', hPd, hB⟩ := dish_fn hD kN
    have hd4 := g4.same _ _ hD.at_
    have hPd := hPd.up g4.same
    have g4 := g3.trans g4
    obtain ⟨ws, rfl, hon⟩ := wi_of hWl.each
    rw [List.length_map] at hdl
    -- rows, wait
    refine ⟨_, rfl, _, rfl, _, rfl, st, c, pn, ns, _, rfl, g4.sta, by omega, SqL.of hn4, by omega, hnd, nok, fun pr rows H5 hpr tree g5 hr5 _ => ?_⟩
    have rN : (ksR rows).Nodup := hpr.nodup_iff.mpr hnd
    obtain ⟨hk, ehk⟩ := rows_fn rN
    generalize ksR rows = rs at hpr rN ehk
    subst ehk
    have s5 := g5.same
    have g5 := g4.trans g5
    have hd5 := s5 _ _ hd4
    have hP5 := hPd.up s5
    have hW5 := hWl.up s5
    have hn5 := s5 _ _ hn4
    have rl : rs.length ≤ 4 := by rw [hpr.length_eq]; exact nl4
    have kl : ks.length ≤ 4 := by rw [hpk.length_eq]; exact nl4
    refine ⟨st, c, pr, rs, hk, _, rfl, g5.sta, by omega, hr5, rN, by omega, fun pb wt kb H6 g6 hb6 hR hw0 _ => ?_⟩
    have s6 := g6.same
    have g6 := g5.trans g6
    have hd6 := s6 _ _ hd5
    have hP6 := hP5.up s6
    have hW6 := hW5.up s6
    have hn6 := s6 _ _ hn5
    refine ⟨_, rfl, st, c, 50, _, rfl, g6.sta, by omega, by omega, by omega, fun w o hw1 hw2 S7 => ⟨_, _, rfl, ?_⟩⟩
    have g7 := g6.trans (Gs.of_upd S7)
    rw [← er_upd H6 st o] at hd6 hP6 hW6 hn6 hb6 hR
    generalize upd H6 st o = H7 at g7 hd6 hP6 hW6 hn6 hb6 hR ⊢
    clear hd4 hd5 hP5 hPd hW5 hWl hn4 hn5 hn3 hn hr5 s5 s6 S7 hD g2 g3 g4 g5 g6 S1
    -- least
    refine ⟨_, rfl, _, rfl, st, c, 50, _, rfl, g7.sta, by omega, by omega, by omega, fun r2 o2 hr20 _ S8 => ⟨by show 3 ≤ sizeLine; decide, fun pl npl => ?_⟩⟩
    have g8 := g7.trans (Gs.of_upd S8)
    rw [← er_upd H7 st o2] at hd6 hP6 hW6 hn6 hb6 hR
    generalize upd H7 st o2 = H8 at g8 npl hd6 hP6 hW6 hn6 hb6 hR ⊢
    have ml := g8.sta.ne npl
    have g9 := g8.new npl (o := .lst [.int 0, .int r2, .int 999999])
    have s9 : Same (er H8 st) (er (upd H8 pl (.lst [.int 0, .int r2, .int 999999])) st) := er_mono (Same.new npl)
    refine ⟨st, c, pl, _, _, rfl, g9.sta, by omega, SqL.of (er_of ml upd_same), by show 0 < 3; decide, by show 3 < 1073741824; decide, fun j v H9 hv g10 => ?_⟩
    obtain ⟨m1, rfl, hm1⟩ := three_int hr20 hv
    have s9 := s9.trans g10.same
    have g9 := g9.trans g10
    have hd6 := s9 _ _ hd6
    have hP6 := hP6.up s9
    have hW6 := hW6.up s9
    have hn6 := s9 _ _ hn6
    have hb6 := s9 _ _ hb6
    have hR := hR.up s9
    refine ⟨_, _, rfl, rfl, ?_⟩
    clear S8 g7 g8 s9 g10 npl ml hv
    -- bounds
    refine ⟨_, rfl, _, rfl, _, rfl, _, rfl, st, c, 50, _, rfl, g9.sta, by omega, by omega, by omega, fun r3 o3 hr30 _ S8 => ⟨by show 3 ≤ sizeLine; decide, fun pl npl => ?_⟩⟩
    have g8 := g9.trans (Gs.of_upd S8)
    rw [← er_upd H9 st o3] at hd6 hP6 hW6 hn6 hb6 hR
    generalize upd H9 st o3 = H10 at g8 npl hd6 hP6 hW6 hn6 hb6 hR ⊢
    have ml := g8.sta.ne npl
    have g9 := g8.new npl (o := .lst [.int 0, .int r3, .int 999999])
    have s9 : Same (er H10 st) (er (upd H10 pl (.lst [.int 0, .int r3, .int 999999])) st) := er_mono (Same.new npl)
    refine ⟨st, c, pl, _, _, rfl, g9.sta, by omega, SqL.of (er_of ml upd_same), by show 0 < 3; decide, by show 3 < 1073741824; decide, fun j v H11 hv g10 => ?_⟩
    obtain ⟨m2, rfl, hm2⟩ := three_int hr30 hv
    have s9 := s9.trans g10.same
    have g9 := g9.trans g10
    have hd6 := s9 _ _ hd6
    have hP6 := hP6.up s9
    have hW6 := hW6.up s9
    have hn6 := s9 _ _ hn6
    have hb6 := s9 _ _ hb6
    have hR := hR.up s9
    refine ⟨_, _, rfl, rfl, by show 2 ≤ sizeLine; decide, fun tb ntb => ?_⟩
    clear S8 g8 s9 g10 npl ml hv
    have mt := g9.sta.ne ntb
    have g12 := g9.new ntb (o := .tup [.int (1 + m1), .int (1 + m1 + m2)])
    have s12 : Same (er H11 st) (er (upd H11 tb (.tup [.int (1 + m1), .int (1 + m1 + m2)])) st) := er_mono (Same.new ntb)
    have ht : er (upd H11 tb (.tup [.int (1 + m1), .int (1 + m1 + m2)])) st tb = some (.tup [.int (1 + m1), .int (1 + m1 + m2)]) := er_of mt upd_same
    have hd := s12 _ _ hd6
    have hP := hP6.up s12
    have hW := hW6.up s12
    have hn := s12 _ _ hn6
    have hb := s12 _ _ hb6
    have hR := hR.up s12
    generalize upd H11 tb (.tup [.int (1 + m1), .int (1 + m1 + m2)]) = H12 at g12 ht hd hP hW hn hb hR ⊢
    clear s12 hd6 hP6 hW6 hn6 hb6 g9 mt ntb
    obtain ⟨us, hw, hA⟩ := hW.ex
    have hkv : ∀ n ∈ ns, (valV kd (.inr n)).isSome = true ∧ PyData.strOk n = true := fun n m => by
      obtain ⟨a, e, _⟩ := hP.val kN (hpk.mem_iff.mpr m)
      exact ⟨by rw [e]; rfl, nok n m⟩
    have hBk : ∀ n ∈ ks, (Nm n ∧ PyData.strOk n = true) ∧ 1 ≤ lo n ∧ lo n ≤ hi' n := fun n m => ⟨⟨pool_nm n (hpool n (hpk.mem_iff.mp m)), nok n (hpk.mem_iff.mp m)⟩, hB n m⟩
    have hlu : us.length = ws.length := by rw [dpLen hA, List.length_map]
    -- Meal(dishes, wishes)
    refine ⟨_, rfl, _, rfl, fun p dx np ndx ndp => ?_⟩
    have sM : Same H12 (upd (upd H12 dx (.own p)) p (.ins A.a_Meal dx [])) := fun b u e => by rw [upd_ne (ne_of_none e np), upd_ne (ne_of_none e ndx)]; exact e
    have sE : Same H12 (er (upd (upd H12 dx (.own p)) p (.ins A.a_Meal dx [])) p) := fun b u e => er_of (ne_of_none e np) (sM _ _ e)
    have sX := (er_same H12 st).trans sE
    refine ⟨p, dx, pd, pw, A.a_S0, kd, ks, lo, hi', us, ws.map wiD, rfl, upd_same, sM _ _ ((er_same _ _) _ _ hd), hP.up ((er_same _ _).trans sM), kN, hBk, by omega, .inl (SqL.of (sX _ _ hw)), dpAllSame sX hA, by rw [List.length_map]; omega, wish_kvs hon hkv, .inr (stUp T.e0 (fun _ _ z => nomatch z)), fun H13 ys M pys ays sS => ⟨rfl, ?_⟩⟩
    have s13 : Same H12 H13 := fun b u e => (er_same _ _) _ _ (sS _ _ (sE _ _ e))
    have g13 := g12.trans (Gs.of_same g12.sta s13)
    have m13 := er_mono (st := st) s13
    obtain ⟨sl, hsl⟩ := g13.sta.lst
    have M := M.er hon hsl
    have hd := m13 _ _ hd
    have hP := hP.up m13
    have hA := dpAllSame m13 hA
    have hw := m13 _ _ hw
    have hn := m13 _ _ hn
    have hb := m13 _ _ hb
    have hR := hR.up m13
    have ht := m13 _ _ ht
    clear s13 m13 hsl sl sM sE sX sS np ndx ndp
    -- Book(rows)
    have hO : ROk (fun s => (ksR (rowsF rs hk)).idxOf s) (rowsF rs hk) := ROk.tree (by rw [ksR_F]; exact rN) (fun s m => by
      rw [ksR_F] at m
      have m2 := hpr.mem_iff.mp m
      exact ⟨pool_nm s (hpool s m2), nok s m2⟩) (by rw [← ksR_len, ksR_F]; omega) tree
    refine ⟨_, rfl, fun p2 dx np ndx ndp => ?_⟩
    have sM : Same H13 (upd (upd H13 dx (.own p2)) p2 (.ins A.a_Book dx [])) := fun b u e => by rw [upd_ne (ne_of_none e np), upd_ne (ne_of_none e ndx)]; exact e
    have sE : Same H13 (er (upd (upd H13 dx (.own p2)) p2 (.ins A.a_Book dx [])) p2) := fun b u e => er_of (ne_of_none e np) (sM _ _ e)
    refine ⟨p2, dx, pb, kb, rs, hk, wt, _, rfl, upd_same, sM _ _ ((er_same _ _) _ _ hb), hR.up ((er_same _ _).trans sM), hO, fun n _ => hw0 n, fun H14 zs0 B pzs azs sS => ⟨rfl, _, _, rfl, ?_⟩⟩
    have e0 : zs0 = ys := asc_uniq (pzs.trans (hpr.trans (pys.trans hpk).symm)) azs ays
    subst e0
    have s13 : Same H13 H14 := fun b u e => (er_same _ _) _ _ (sS _ _ (sE _ _ e))
    have g14 := g13.trans (Gs.of_same g13.sta s13)
    have m13 := er_mono (st := st) s13
    obtain ⟨sl, hsl⟩ := g14.sta.lst
    have B := B.er hsl
    have M := M.up m13
    have hd := m13 _ _ hd
    have hP := hP.up m13
    have hA := dpAllSame m13 hA
    have hw := m13 _ _ hw
    have hn := m13 _ _ hn
    have hb := m13 _ _ hb
    have hR := hR.up m13
    have ht := m13 _ _ ht
    clear s13 m13 hsl sl sM sE sS np ndx ndp g12 g13
    -- with(dishes, "qq", bounds)
    refine ⟨_, rfl, _, rfl, pd, .inr "qq", .ref tb, kd, rfl, .inl ((er_same _ _) _ _ hd), by rw [hP.len]; omega, fun pe H15 npe s15 he => ?_⟩
    have hqk : qq ∉ ks := fun m => hqq (hpk.mem_iff.mp m)
    rw [put_new _ _ _ (by rw [hP.keys]; intro m; obtain ⟨z, hz, ez⟩ := List.mem_map.mp m; exact hqk (by have ez2 : z = qq := Sum.inr.inj ez; rw [← ez2]; exact hz))] at he
    have m15 := er_mono (st := st) s15
    have g15 := g14.trans (Gs.of_same g14.sta s15)
    have M := M.up m15
    have B := B.up m15
    have hP := hP.up m15
    have hA := dpAllSame m15 hA
    have hw := m15 _ _ hw
    have hn := m15 _ _ hn
    have hb := m15 _ _ hb
    have hR := hR.up m15
    have ht := m15 _ _ ht
    have mpe := g14.sta.ne npe
    have he := er_of mpe he
    clear s15 m15 npe g14
    have hPq : Pr2 K (er H15 st) (ks ++ [qq]) (fun n => .int (inB (1 + m1) lo n)) (fun n => .int (inB (1 + m1 + m2) hi' n)) (kd ++ [(.inr qq, .ref tb)]) := by
      refine Pr2.snoc (hP.congr fun n m => ?_) ?_
      · have nq : n ≠ qq := fun e => hqk (by rw [← e]; exact m)
        rw [inB_ne nq, inB_ne nq]; exact ⟨rfl, rfl⟩
      · rw [inB_qq, inB_qq]; exact SqT.of ht
    have kqN : (ks ++ [qq]).Nodup := List.nodup_append.mpr ⟨kN, List.nodup_cons.mpr ⟨(fun m => nomatch m), List.nodup_nil⟩, fun a ha b hb e => hqk (by rw [List.mem_singleton.mp hb] at e; rw [← e]; exact ha)⟩
    have hBq : ∀ n ∈ ks ++ [qq], (Nm n ∧ PyData.strOk n = true) ∧ 1 ≤ inB (1 + m1) lo n ∧ inB (1 + m1) lo n ≤ inB (1 + m1 + m2) hi' n := fun n m => by
      rcases List.mem_append.mp m with m | m
      · have nq : n ≠ qq := fun e => hqk (by rw [← e]; exact m)
        rw [inB_ne nq, inB_ne nq]
        exact hBk n m
      · rw [List.mem_singleton.mp m, inB_qq, inB_qq]
        exact ⟨⟨qq_nm, by decide +kernel⟩, by omega, by omega⟩
    have hkq : ∀ n ∈ ns, (valV (kd ++ [(.inr qq, .ref tb)]) (.inr n)).isSome = true ∧ PyData.strOk n = true := fun n m => by
      obtain ⟨a, e, _⟩ := hPq.val kqN (n := n) (List.mem_append_left _ (hpk.mem_iff.mpr m))
      exact ⟨by rw [e]; rfl, nok n m⟩
    -- Meal(.., wishes)
    refine ⟨_, rfl, fun p3 dx np ndx ndp => ?_⟩
    have sM : Same H15 (upd (upd H15 dx (.own p3)) p3 (.ins A.a_Meal dx [])) := fun b u e => by rw [upd_ne (ne_of_none e np), upd_ne (ne_of_none e ndx)]; exact e
    have sE : Same H15 (er (upd (upd H15 dx (.own p3)) p3 (.ins A.a_Meal dx [])) p3) := fun b u e => er_of (ne_of_none e np) (sM _ _ e)
    have sX := (er_same H15 st).trans sE
    refine ⟨p3, dx, pe, pw, A.a_S0, _, ks ++ [qq], _, _, us, ws.map wiD, rfl, upd_same, sM _ _ ((er_same _ _) _ _ he), hPq.up ((er_same _ _).trans sM), kqN, hBq, by rw [List.length_append, List.length_singleton]; omega, .inl (SqL.of (sX _ _ hw)), dpAllSame sX hA, by rw [List.length_map]; omega, wish_kvs hon hkq, .inr (stUp T.e0 (fun _ _ z => nomatch z)), fun H16 zs L pzs2 azs2 sS => ⟨rfl, ?_⟩⟩
    have s13 : Same H15 H16 := fun b u e => (er_same _ _) _ _ (sS _ _ (sE _ _ e))
    have g16 := g15.trans (Gs.of_same g15.sta s13)
    have m13 := er_mono (st := st) s13
    obtain ⟨sl, hsl⟩ := g16.sta.lst
    have L := L.er hon hsl
    have M := M.up m13
    have B := B.up m13
    have hA := dpAllSame m13 hA
    have hw := m13 _ _ hw
    have hn := m13 _ _ hn
    have hb := m13 _ _ hb
    have hR := hR.up m13
    have ht := m13 _ _ ht
    clear s13 m13 hsl sl sM sE sX sS np ndx ndp g15 hPq he hP
    -- Book(below(rows, wait))
    refine ⟨_, rfl, _, rfl, pb, w, rs, hk, wt, kb, rfl, (er_same _ _) _ _ hb, hR.up (er_same _ _), rN, by omega, fun m => hqq (hpr.mem_iff.mp m), fun pf H17 kf s17 npf hf hF => ?_⟩
    have m17 := er_mono (st := st) s17
    have g17 := g16.trans (Gs.of_same g16.sta s17)
    have L := L.up m17
    have M := M.up m17
    have B := B.up m17
    have hA := dpAllSame m17 hA
    have hw := m17 _ _ hw
    have hn := m17 _ _ hn
    have ht := m17 _ _ ht
    clear s17 m17 hb hR g16
    have hqr : qq ∉ rs := fun m => hqq (hpr.mem_iff.mp m)
    have qN : (qq :: rs).Nodup := List.nodup_cons.mpr ⟨hqr, rN⟩
    have hOB : ROk (fun s => (ksR (rowsF (qq :: rs) (hkB hk))).idxOf s) (rowsF (qq :: rs) (hkB hk)) := ROk.tree (by rw [ksR_F]; exact qN) (fun s m => by
      rw [ksR_F] at m
      rcases List.mem_cons.mp m with e | m
      · rw [e]; exact ⟨qq_nm, by decide +kernel⟩
      · have m2 := hpr.mem_iff.mp m
        exact ⟨pool_nm s (hpool s m2), nok s m2⟩) (by rw [← ksR_len, ksR_F, List.length_cons]; omega) (tree_B tree hqr)
    refine fun p4 dx np ndx ndp => ?_
    have sM : Same H17 (upd (upd H17 dx (.own p4)) p4 (.ins A.a_Book dx [])) := fun b u e => by rw [upd_ne (ne_of_none e np), upd_ne (ne_of_none e ndx)]; exact e
    have sE : Same H17 (er (upd (upd H17 dx (.own p4)) p4 (.ins A.a_Book dx [])) p4) := fun b u e => er_of (ne_of_none e np) (sM _ _ e)
    refine ⟨p4, dx, pf, kf, qq :: rs, hkB hk, inB w wt, _, rfl, upd_same, sM _ _ hf, hF.up sM, hOB, fun n _ => ?_, fun H18 zs1 U pzs3 azs3 sS => ⟨rfl, _, _, rfl, ?_⟩⟩
    · unfold inB
      split
      · exact hw1
      · exact hw0 n
    have pq : zs.Perm (qq :: rs) := pzs2.trans ((List.perm_append_singleton qq ks).trans ((hpk.trans hpr.symm).cons qq))
    have e1 : zs1 = zs := asc_uniq (pzs3.trans pq.symm) azs3 azs2
    subst e1
    have s13 : Same H17 H18 := fun b u e => (er_same _ _) _ _ (sS _ _ (sE _ _ e))
    have g18 := g17.trans (Gs.of_same g17.sta s13)
    have m13 := er_mono (st := st) s13
    obtain ⟨sl, hsl⟩ := g18.sta.lst
    have U := U.er hsl
    have F18 : Fx K A.a_Meal A.a_Book (er H18 st) pn pw tb p p2 p3 p4 ns zs0 zs1 us ws lo hi' wt hk w (1 + m1) (1 + m1 + m2) := ⟨m13 _ _ hn, m13 _ _ hw, dpAllSame m13 hA, stUp (SqT.of ht) m13, M.up m13, B.up m13, L.up m13, U⟩
    clear s13 m13 hsl sl sM sE sS np ndx ndp g17 hF hf L M B hA hw hn ht U npf hkq hkv hBq hBk
    obtain ⟨W, hWy⟩ := ways_ex (hO.perm pzs)
    have hOy := hO.perm pzs
    have hOz := hOB.perm pzs3
    have hWz : WaysOk zs1 (hkB hk) (WB W) := ways_B (ns := rs) hqr pzs pzs3 hWy hOz
    have ny : ∀ n ∈ ns, n ∈ zs0 := fun n m => pzs.mem_iff.mpr (hpr.mem_iff.mpr m)
    have nz : ∀ n ∈ ns, n ∈ zs1 := fun n m => pzs3.mem_iff.mpr (List.mem_cons_of_mem _ (hpr.mem_iff.mpr m))
    have hWq : ∀ n ∈ ns, qq ∉ W n := fun n m z => hqr (pzs.mem_iff.mp ((hWy n (ny n m)).2 _ z))
    have hony : ∀ w ∈ ws, w.1.on zs0 ∧ w.2.1.on zs0 := fun x m => ⟨Mo.on_mono ny (hon x m).1, Mo.on_mono ny (hon x m).2⟩
    have honz : ∀ w ∈ ws, w.1.on zs1 ∧ w.2.1.on zs1 := fun x m => ⟨Mo.on_mono nz (hon x m).1, Mo.on_mono nz (hon x m).2⟩
    have hdue : ws.map (slM (WB W) (inB w wt) (inB (1 + m1) lo) (inB (1 + m1 + m2) hi')) = ws.map (dueM W wt lo hi' w (1 + m1) (1 + m1 + m2)) := List.map_congr_left fun x m => sl_B hqq (hon x m) hWq
    clear hO hOB
    -- due
    refine ⟨Nat.zero_le _, fun pq npq => ?_⟩
    have mq := g18.sta.ne npq
    have eq0 : er H0 st pq = none := g18.same.free (er_none npq)
    have g19 := g18.new npq (o := .lst [])
    have F19 := F18.up (show Same (er H18 st) (er (er (upd H18 pq (.lst [])) st) pq) from fun b u e => er_of (ne_of_none (er_some e).2 npq) (er_mono (Same.new npq) _ _ e))
    have hq19 : upd H18 pq (.lst []) pq = some (.lst []) := upd_same
    generalize upd H18 pq (.lst []) = H19 at g19 F19 hq19 ⊢
    have up2 : ∀ {G : Hp}, Same (er (er G st) pq) G := (er_same _ _).trans (er_same _ _)
    refine ⟨_, rfl, _, rfl, p, p2, zs0, lo, hi', ws, hk, wt, _, W, rfl, F19.m.up up2, F19.b.up up2, hony, by omega, hOy, ays, hWy, fun pl H20 s20 npl hpl => ?_⟩
    have g20 := g19.trans (Gs.of_same g19.sta s20)
    have F20 := F19.up (er_mono (er_mono s20))
    have hq20 := s20 _ _ hq19
    clear g18 F18 g19 F19 hq19 s20 npl npq
    refine ⟨pl, _, rfl, SqL.of hpl, for_it walk_enum (fun t σ' H' => ∃ v15 v16, σ' = [some (.ref a), some (.ref st), some (.int (0 + (i : Int))), some (.ref pn), some (.ref pd), some (.ref pw), some (.ref pb), some (.int w), some (.int (1 + m1)), some (.ref tb), some (.ref p), some (.ref p2), some (.ref p3), some (.ref p4), some (.ref pq), v15, v16, v17, v18, v19, v20] ∧
        Gs st c H0 H' (2000 * (i : Int) + 1500) ∧ Fx K A.a_Meal A.a_Book (er (er H' st) pq) pn pw tb p p2 p3 p4 ns zs0 zs1 us ws lo hi' wt hk w (1 + m1) (1 + m1 + m2) ∧ H' pq = some (.lst (((ws.take t).map (dueM W wt lo hi' w (1 + m1) (1 + m1 + m2))).map V.int)) ∧ H' pl = some (.lst ((ws.map (slM W wt lo hi')).map V.int)))
      ⟨_, _, rfl, g20.le (by omega) (by omega), F20, hq20, hpl⟩ (fun t σ' H' _ ⟨_, _, _, _, _, _, z⟩ => SqL.of z) ?_ ?_⟩
    · rintro t x σ' H' H'' ht2 ⟨_, _, rfl, g, F, hq, hp⟩ ⟨Tt, u, v, rfl, hTt, rfl, hu, hv⟩
      have ht3 : t < ws.length := by rw [List.length_map, List.length_map] at ht2; exact ht2
      have eu : u = .int (t : Nat) := (Option.some.inj hu).symm
      subst eu
      have ev : v = .int (slM W wt lo hi' ws[t]) := by
        have hv2 : ((ws.map (slM W wt lo hi')).map V.int)[t]? = some v := hv
        rw [List.getElem?_map, List.getElem?_map, List.getElem?_eq_getElem ht3] at hv2
        exact (Option.some.inj hv2).symm
      subst ev
      refine ⟨Tt, _, rfl, SqT.of upd_same, rfl, _, _, rfl, _, _, rfl, rfl, ?_⟩
      have g := g.new hTt (o := .tup [.int (t : Nat), .int (slM W wt lo hi' ws[t])])
      have F := F.up (er_mono (st := pq) (er_mono (st := st) (Same.new hTt (o := .tup [.int (t : Nat), .int (slM W wt lo hi' ws[t])]))))
      have hq := Same.new hTt (o := .tup [.int (t : Nat), .int (slM W wt lo hi' ws[t])]) _ _ hq
      have hp := Same.new hTt (o := .tup [.int (t : Nat), .int (slM W wt lo hi' ws[t])]) _ _ hp
      generalize upd H' Tt (.tup [.int (t : Nat), .int (slM W wt lo hi' ws[t])]) = H2 at g F hq hp ⊢
      have ht4 : t < us.length := by rw [hlu]; exact ht3
      have hat : us[t]? = some us[t] := List.getElem?_eq_getElem ht4
      obtain ⟨d, hd1, hd2⟩ := dpGet F.w2 hat
      rw [List.getElem?_map, List.getElem?_eq_getElem ht3] at hd1
      obtain rfl : wiD ws[t] = d := Option.some.inj hd1
      obtain ⟨aw, x1, x2, ex, hsq, e1, e2⟩ := dp_wi hd2
      rw [ex] at hat
      have hsq := stUp hsq (up2 (G := H2))
      have e1 := dpSame (up2 (G := H2)) e1
      have e2 := dpSame (up2 (G := H2)) e2
      obtain ⟨on1, on2⟩ := hon _ (List.getElem_mem ht3)
      have hwp : H2 pw = some (.lst us) := up2 _ _ F.w1
      refine ⟨_, rfl, .inl ⟨rfl, _, SqL.of hq⟩, _, rfl, _, rfl, _, rfl, _, _, _, _, rfl, rfl, SqL.of hwp, at_of (j := t) (by omega) hat, _, _, _, _, rfl, rfl, hsq, rfl, _, rfl, _, rfl, _, _, _, _, rfl, rfl, SqL.of hwp, at_of (j := t) (by omega) hat, _, _, _, _, rfl, rfl, hsq, rfl, _, rfl, _, rfl, x1, x2, tb, ws[t].1, ws[t].2.1, ns, w, 1 + m1, 1 + m1 + m2, rfl, e1, e2, on1, on2, nok, stUp F.t up2, _, _, rfl, rfl, ?_⟩
      refine ⟨pq, _, _, rfl, rfl, hq, ?_, ?_⟩
      · rw [List.length_map, List.length_map, List.length_take]
        exact Nat.lt_of_le_of_lt (show min t _ ≤ 1000 by omega) (by decide)
      have npl : pl ≠ pq := fun e => by
        rw [e, hq] at hp
        have := congrArg (fun z : Option HO => match z with | some (.lst l) => l.length | _ => 0) hp
        simp only [List.length_map, List.length_take] at this
        omega
      refine ⟨_, _, rfl, g.set S0.hc eq0 mq, ?_, ?_, ?_⟩
      · refine F.up fun b u e => ?_
        obtain ⟨n1, e1⟩ := er_some e
        obtain ⟨n2, e2⟩ := er_some e1
        exact er_of n1 (er_of n2 (by rw [upd_ne n1]; exact e2))
      · rw [upd_same, take_map (dueM W wt lo hi' w (1 + m1) (1 + m1 + m2)) ht3, List.map_append]; rfl
      · rw [upd_ne npl]; exact hp
    rintro σ' H21 ⟨_, _, rfl, g21, F21, hq21, _⟩
    rw [List.length_map, List.length_map, List.take_length] at hq21
    clear g20 F20 hq20 hpl
    -- same(slacks(later, below), due)
    refine ⟨_, rfl, _, rfl, p3, p4, zs1, _, _, ws, hkB hk, inB w wt, _, WB W, rfl, F21.l.up up2, F21.u.up up2, honz, by omega, hOz, azs2, hWz, fun l2 H22 s22 nl2 h22 => ?_⟩
    rw [hdue] at h22
    have hl2 : (ws.map (dueM W wt lo hi' w (1 + m1) (1 + m1 + m2))).length ≤ 1000 := by rw [List.length_map]; omega
    generalize ws.map (dueM W wt lo hi' w (1 + m1) (1 + m1 + m2)) = is at h22 hq21 hl2
    refine ⟨_, rfl, _, _, .list (is.map PyData.int), rfl, .lst (SqL.of h22) (dpInts _), .lst (SqL.of (s22 _ _ hq21)) (dpInts _), ?_, ?_, fun H23 s23 => ⟨_, rfl, iteF ?_⟩⟩
    · simp only [PyData.depth, ints_depth]; decide
    · simp only [wid, ints_wid, Bool.and_true, List.length_map]; exact decide_eq_true hl2
    have g23 := g21.trans (Gs.of_same g21.sta (s22.trans s23))
    have F23 := F21.up ((er_same _ _).trans (er_mono (st := st) (s22.trans s23)))
    clear g21 F21 hq21 s22 s23 h22 nl2 eq0 mq up2
    refine ⟨6, rfl, by decide, by decide, for_range (lo := 0) (n := (6 : Int).toNat) (fun j σ' H' => ∃ v15 v16 v17 v18 v19 v20, σ' = [some (.ref a), some (.ref st), some (.int (0 + (i : Int))), some (.ref pn), some (.ref pd), some (.ref pw), some (.ref pb), some (.int w), some (.int (1 + m1)), some (.ref tb), some (.ref p), some (.ref p2), some (.ref p3), some (.ref p4), some (.ref pq), v15, v16, v17, v18, v19, v20] ∧
        Gs st c H0 H' (2000 * (i : Int) + 1500 + 10 * (j : Int)) ∧ Fx K A.a_Meal A.a_Book (er H' st) pn pw tb p p2 p3 p4 ns zs0 zs1 us ws lo hi' wt hk w (1 + m1) (1 + m1 + m2))
      ⟨_, _, _, _, _, _, rfl, by simpa using g23, F23⟩ ?_ ?_⟩
    · rintro j σ' H' hj ⟨v15, v16, v17, v18, v19, v20, rfl, g, F⟩
      have hj6 : (j : Int) < 6 := by
        have : j < 6 := hj
        omega
      refine ⟨_, rfl, _, rfl, st, c, pn, ns, _, rfl, g.sta, by omega, SqL.of F.n, by omega, nok, fun x1 d1 H1 g1 D1 M1 => ?_⟩
      obtain ⟨o1, rfl, q1⟩ := mo_of M1
      have F1 := F.up g1.same
      have g1 := g.trans g1
      refine ⟨_, rfl, _, rfl, st, c, pn, ns, _, rfl, g1.sta, by omega, SqL.of F1.n, by omega, nok, fun x2 d2 H2 g2 D2 M2 => ?_⟩
      obtain ⟨o2, rfl, q2⟩ := mo_of M2
      have F2 := F1.up g2.same
      have D1 := dpSame g2.same D1
      have g2 := g1.trans g2
      clear g g1 F F1 M1 M2
      refine ⟨_, rfl, _, rfl, _, rfl, _, rfl, p, p2, x1, x2, zs0, lo, hi', _, hk, wt, _, W, o1, o2, rfl, F2.m.up (er_same _ _), F2.b.up (er_same _ _), dpSame (er_same _ _) D1, dpSame (er_same _ _) D2, Mo.on_mono ny q1, Mo.on_mono ny q2, hOy, ays, hWy, fun H3 s3 => ?_⟩
      have m3 := er_mono (st := st) s3
      have F3 := F2.up m3
      have D1 := dpSame m3 D1
      have D2 := dpSame m3 D2
      refine ⟨_, rfl, _, rfl, _, rfl, _, rfl, x1, x2, tb, o1, o2, ns, w, 1 + m1, 1 + m1 + m2, rfl, dpSame (er_same _ _) D1, dpSame (er_same _ _) D2, q1, q2, nok, stUp F3.t (er_same _ _), _, _, rfl, rfl, ?_⟩
      refine ⟨_, rfl, _, rfl, _, rfl, _, rfl, p3, p4, x1, x2, zs1, _, _, _, hkB hk, inB w wt, _, WB W, o1, o2, rfl, F3.l.up (er_same _ _), F3.u.up (er_same _ _), dpSame (er_same _ _) D1, dpSame (er_same _ _) D2, Mo.on_mono nz q1, Mo.on_mono nz q2, hOz, azs2, hWz, fun H4 s4 => ?_⟩
      rw [mb_B hqq q1 q2 hWq]
      refine ⟨_, rfl, _, _, .int _, rfl, .int _, .int _, by show 0 < 2; decide, rfl, fun H5 s5 => ⟨_, rfl, iteF ?_⟩⟩
      have s6 := (s3.trans s4).trans s5
      exact ⟨_, _, _, _, _, _, rfl, (g2.trans (Gs.of_same g2.sta s6)).le (by omega) (by omega), F2.up (er_mono s6)⟩
    · rintro σ' H' ⟨v15, v16, v17, v18, v19, v20, rfl, g, F⟩
      refine ⟨_, _, _, _, _, _, _, _, _, _, _, _, _, _, _, _, _, _, _, rfl, g.sta.le ?_ ?_⟩
      · have : (((6 : Int).toNat : Nat) : Int) = 6 := rfl
        omega
      · omega
end
end K5
set_option Elab.async false
set_option linter.all false
set_option maxRecDepth 100000
set_option maxHeartbeats 0
namespace K5
open PySem PySem.Spec PyProof.Rows L2
def tupA (K : PySem.W.Frag) (a : Addr) (vs : List V) : Bool := match K.lookup a with
  | some ⟨.type c, _, .seq its _, _⟩ => decide (c = "tuple") && (decide (its.size ≤ sizeLine) && He.relAll vs its.toList)
  | _ => false
theorem tupA_ok {K : PySem.W.Frag} {a : Addr} {vs : List V} (h : tupA K a vs = true) (H : Hp) : SqT K H a vs := by
  unfold tupA at h
  split at h
  · rename_i c od its n sl q
    obtain ⟨h1, h2⟩ := He.ba h
    obtain ⟨h3, h4⟩ := He.ba h2
    exact .inr ⟨_, its, n, q, congrArg Value.type (of_decide_eq_true h1), rfl, of_decide_eq_true h3, He.relAll_ok h4⟩
  · cases h
theorem mi_of {K : PySem.W.Frag} {x m : Str} (c : (He.Fa.meth x m).ok K = true) : PySem.W.findIn K (.ref (He.ga K x)) m = some (some (.ref (He.ma K (He.ga K x) m))) ∧ PySem.W.isFn K (.ref (He.ma K (He.ga K x) m)) = true := ⟨(He.meth_ok c).at_, (He.meth_ok c).fn⟩
def dd_is_integer : He.DefD := ⟨("is_integer", none), "is_integer", "is_integer", defArgs s_is_integer, defBody s_is_integer, defScope s_is_integer, [], []⟩
def dd_is_list : He.DefD := ⟨("is_list", none), "is_list", "is_list", defArgs s_is_list, defBody s_is_list, defScope s_is_list, [], []⟩
def dd_is_name : He.DefD := ⟨("is_name", none), "is_name", "is_name", defArgs s_is_name, defBody s_is_name, defScope s_is_name, [], []⟩
def dd_is_dish : He.DefD := ⟨("is_dish", none), "is_dish", "is_dish", defArgs s_is_dish, defBody s_is_dish, defScope s_is_dish, [], []⟩
def dd_alike : He.DefD := ⟨("alike", none), "alike", "alike", defArgs s_alike, defBody s_alike, defScope s_alike, [], []⟩
def dd_is_bounds : He.DefD := ⟨("is_bounds", none), "is_bounds", "is_bounds", defArgs s_is_bounds, defBody s_is_bounds, defScope s_is_bounds, [], []⟩
def dd_is_moment : He.DefD := ⟨("is_moment", none), "is_moment", "is_moment", defArgs s_is_moment, defBody s_is_moment, defScope s_is_moment, [], []⟩
def dd_is_wish : He.DefD := ⟨("is_wish", none), "is_wish", "is_wish", defArgs s_is_wish, defBody s_is_wish, defScope s_is_wish, [], []⟩
def dd_as_moment : He.DefD := ⟨("as_moment", none), "as_moment", "as_moment", defArgs s_as_moment, defBody s_as_moment, defScope s_as_moment, [], []⟩
def dd_as_wish : He.DefD := ⟨("as_wish", none), "as_wish", "as_wish", defArgs s_as_wish, defBody s_as_wish, defScope s_as_wish, [], []⟩
def dd_check_dish : He.DefD := ⟨("check_dish", none), "check_dish", "check_dish", defArgs s_check_dish, defBody s_check_dish, defScope s_check_dish, [], []⟩
def dd_check_same : He.DefD := ⟨("check_same", none), "check_same", "check_same", defArgs s_check_same, defBody s_check_same, defScope s_check_same, [], []⟩
def dd_check_moments : He.DefD := ⟨("check_moments", none), "check_moments", "check_moments", defArgs s_check_moments, defBody s_check_moments, defScope s_check_moments, [], []⟩
def dd_Meal___init__ : He.DefD := ⟨("Meal", some "__init__"), "__init__", "Meal.__init__", defArgs s_Meal___init__, defBody s_Meal___init__, defScope s_Meal___init__, [.adr (He.dflAt ("Meal", some "__init__") 0), .adr (He.dflAt ("Meal", some "__init__") 1)], []⟩
def dd_Meal_dishes : He.DefD := ⟨("Meal", some "dishes"), "dishes", "Meal.dishes", defArgs s_Meal_dishes, defBody s_Meal_dishes, defScope s_Meal_dishes, [], []⟩
def dd_Meal_wishes : He.DefD := ⟨("Meal", some "wishes"), "wishes", "Meal.wishes", defArgs s_Meal_wishes, defBody s_Meal_wishes, defScope s_Meal_wishes, [], []⟩
def dd_Meal___len__ : He.DefD := ⟨("Meal", some "__len__"), "__len__", "Meal.__len__", defArgs s_Meal___len__, defBody s_Meal___len__, defScope s_Meal___len__, [], []⟩
def dd_Meal___iter__ : He.DefD := ⟨("Meal", some "__iter__"), "__iter__", "Meal.__iter__", defArgs s_Meal___iter__, defBody s_Meal___iter__, defScope s_Meal___iter__, [], []⟩
def dd_check_dishes : He.DefD := ⟨("check_dishes", none), "check_dishes", "check_dishes", defArgs s_check_dishes, defBody s_check_dishes, defScope s_check_dishes, [], []⟩
def dd_check_wishes : He.DefD := ⟨("check_wishes", none), "check_wishes", "check_wishes", defArgs s_check_wishes, defBody s_check_wishes, defScope s_check_wishes, [], []⟩
def dd_check_stations : He.DefD := ⟨("check_stations", none), "check_stations", "check_stations", defArgs s_check_stations, defBody s_check_stations, defScope s_check_stations, [], []⟩
def dd_way_up : He.DefD := ⟨("way_up", none), "way_up", "way_up", defArgs s_way_up, defBody s_way_up, defScope s_way_up, [], []⟩
def dd_way_of : He.DefD := ⟨("way_of", none), "way_of", "way_of", defArgs s_way_of, defBody s_way_of, defScope s_way_of, [], []⟩
def dd_dish_of : He.DefD := ⟨("dish_of", none), "dish_of", "dish_of", defArgs s_dish_of, defBody s_dish_of, defScope s_dish_of, [], []⟩
def dd_spread : He.DefD := ⟨("spread", none), "spread", "spread", defArgs s_spread, defBody s_spread, defScope s_spread, [], []⟩
def dd_most_longer : He.DefD := ⟨("most_longer", none), "most_longer", "most_longer", defArgs s_most_longer, defBody s_most_longer, defScope s_most_longer, [], []⟩
def dd_most_behind : He.DefD := ⟨("most_behind", none), "most_behind", "most_behind", defArgs s_most_behind, defBody s_most_behind, defScope s_most_behind, [], []⟩
def dd_sum_of : He.DefD := ⟨("sum_of", none), "sum_of", "sum_of", defArgs s_sum_of, defBody s_sum_of, defScope s_sum_of, [], []⟩
def dd_slacks : He.DefD := ⟨("slacks", none), "slacks", "slacks", defArgs s_slacks, defBody s_slacks, defScope s_slacks, [], []⟩
def dd_Hanging___init__ : He.DefD := ⟨("Hanging", some "__init__"), "__init__", "Hanging.__init__", defArgs s_Hanging___init__, defBody s_Hanging___init__, defScope s_Hanging___init__, [], []⟩
def dd_Hanging_rows : He.DefD := ⟨("Hanging", some "rows"), "rows", "Hanging.rows", defArgs s_Hanging_rows, defBody s_Hanging_rows, defScope s_Hanging_rows, [], []⟩
def dd_check_rows : He.DefD := ⟨("check_rows", none), "check_rows", "check_rows", defArgs s_check_rows, defBody s_check_rows, defScope s_check_rows, [], []⟩
def dd_is_hook : He.DefD := ⟨("is_hook", none), "is_hook", "is_hook", defArgs s_is_hook, defBody s_is_hook, defScope s_is_hook, [], []⟩
def dd_check_rounds : He.DefD := ⟨("check_rounds", none), "check_rounds", "check_rounds", defArgs s_check_rounds, defBody s_check_rounds, defScope s_check_rounds, [], []⟩
def dd_round_from : He.DefD := ⟨("round_from", none), "round_from", "round_from", defArgs s_round_from, defBody s_round_from, defScope s_round_from, [], []⟩
def dd_Book___init__ : He.DefD := ⟨("Book", some "__init__"), "__init__", "Book.__init__", defArgs s_Book___init__, defBody s_Book___init__, defScope s_Book___init__, [], []⟩
def dd_Book_hanging : He.DefD := ⟨("Book", some "hanging"), "hanging", "Book.hanging", defArgs s_Book_hanging, defBody s_Book_hanging, defScope s_Book_hanging, [], []⟩
def dd_Book_added : He.DefD := ⟨("Book", some "added"), "added", "Book.added", defArgs s_Book_added, defBody s_Book_added, defScope s_Book_added, [], []⟩
def dd_Book___iter__ : He.DefD := ⟨("Book", some "__iter__"), "__iter__", "Book.__iter__", defArgs s_Book___iter__, defBody s_Book___iter__, defScope s_Book___iter__, [], []⟩
def dd_check_entries : He.DefD := ⟨("check_entries", none), "check_entries", "check_entries", defArgs s_check_entries, defBody s_check_entries, defScope s_check_entries, [], []⟩
def dd_is_entry : He.DefD := ⟨("is_entry", none), "is_entry", "is_entry", defArgs s_is_entry, defBody s_is_entry, defScope s_is_entry, [], []⟩
def dd_is_wait : He.DefD := ⟨("is_wait", none), "is_wait", "is_wait", defArgs s_is_wait, defBody s_is_wait, defScope s_is_wait, [], []⟩
def dd__law_fresh : He.DefD := ⟨("_law_fresh", none), "_law_fresh", "_law_fresh", defArgs s__law_fresh, defBody s__law_fresh, defScope s__law_fresh, [], []⟩
def dd__law_take : He.DefD := ⟨("_law_take", none), "_law_take", "_law_take", defArgs s__law_take, defBody s__law_take, defScope s__law_take, [], []⟩
def dd__law_one : He.DefD := ⟨("_law_one", none), "_law_one", "_law_one", defArgs s__law_one, defBody s__law_one, defScope s__law_one, [], []⟩
def dd__law_mix : He.DefD := ⟨("_law_mix", none), "_law_mix", "_law_mix", defArgs s__law_mix, defBody s__law_mix, defScope s__law_mix, [], []⟩
def dd__law_same : He.DefD := ⟨("_law_same", none), "_law_same", "_law_same", defArgs s__law_same, defBody s__law_same, defScope s__law_same, [], []⟩
def dd__law_names : He.DefD := ⟨("_law_names", none), "_law_names", "_law_names", defArgs s__law_names, defBody s__law_names, defScope s__law_names, [], []⟩
def dd__law_dishes : He.DefD := ⟨("_law_dishes", none), "_law_dishes", "_law_dishes", defArgs s__law_dishes, defBody s__law_dishes, defScope s__law_dishes, [], []⟩
def dd__law_moment : He.DefD := ⟨("_law_moment", none), "_law_moment", "_law_moment", defArgs s__law_moment, defBody s__law_moment, defScope s__law_moment, [], []⟩
def dd__law_wishes : He.DefD := ⟨("_law_wishes", none), "_law_wishes", "_law_wishes", defArgs s__law_wishes, defBody s__law_wishes, defScope s__law_wishes, [], []⟩
def dd__law_hung : He.DefD := ⟨("_law_hung", none), "_law_hung", "_law_hung", defArgs s__law_hung, defBody s__law_hung, defScope s__law_hung, [], []⟩
def dd__law_waiting : He.DefD := ⟨("_law_waiting", none), "_law_waiting", "_law_waiting", defArgs s__law_waiting, defBody s__law_waiting, defScope s__law_waiting, [], []⟩
def dd__law_with : He.DefD := ⟨("_law_with", none), "_law_with", "_law_with", defArgs s__law_with, defBody s__law_with, defScope s__law_with, [], []⟩
def dd__law_below : He.DefD := ⟨("_law_below", none), "_law_below", "_law_below", defArgs s__law_below, defBody s__law_below, defScope s__law_below, [], []⟩
def dd__law_more : He.DefD := ⟨("_law_more", none), "_law_more", "_law_more", defArgs s__law_more, defBody s__law_more, defScope s__law_more, [], []⟩
def dd_law : He.DefD := ⟨("law", none), "law", "law", defArgs s_law, defBody s_law, defScope s_law, [], []⟩
def fn0 : List He.DefD := [dd_is_integer, dd_is_list, dd_is_name, dd_is_dish, dd_alike, dd_is_bounds, dd_is_moment, dd_is_wish, dd_as_moment, dd_as_wish, dd_check_dish, dd_check_same, dd_check_moments, dd_Meal___init__, dd_Meal_dishes, dd_Meal_wishes, dd_Meal___len__, dd_Meal___iter__, dd_check_dishes, dd_check_wishes, dd_check_stations, dd_way_up, dd_way_of, dd_dish_of, dd_spread, dd_most_longer, dd_most_behind, dd_sum_of, dd_slacks, dd_Hanging___init__]
def fn1 : List He.DefD := [dd_Hanging_rows, dd_check_rows, dd_is_hook, dd_check_rounds, dd_round_from, dd_Book___init__, dd_Book_hanging, dd_Book_added, dd_Book___iter__, dd_check_entries, dd_is_entry, dd_is_wait, dd__law_fresh, dd__law_take, dd__law_one, dd__law_mix, dd__law_same, dd__law_names, dd__law_dishes, dd__law_moment, dd__law_wishes, dd__law_hung, dd__law_waiting, dd__law_with, dd__law_below, dd__law_more, dd_law]
def fnL : List He.DefD := fn0 ++ fn1
def fa0 : List He.Fa := [.glo "is_integer", .glo "is_list", .glo "is_name", .glo "is_dish", .glo "alike", .glo "is_bounds", .glo "is_moment", .glo "is_wish", .glo "as_moment", .glo "as_wish", .glo "check_dish", .glo "check_same", .glo "check_moments", .glo "check_dishes", .glo "check_wishes", .glo "check_stations", .glo "way_up", .glo "way_of", .glo "dish_of", .glo "spread", .glo "most_longer", .glo "most_behind", .glo "sum_of", .glo "slacks", .glo "check_rows", .glo "is_hook", .glo "check_rounds", .glo "round_from", .glo "check_entries", .glo "is_entry"]
def fa1 : List He.Fa := [.glo "is_wait", .glo "_law_fresh", .glo "_law_take", .glo "_law_one", .glo "_law_mix", .glo "_law_same", .glo "_law_names", .glo "_law_dishes", .glo "_law_moment", .glo "_law_wishes", .glo "_law_hung", .glo "_law_waiting", .glo "_law_with", .glo "_law_below", .glo "_law_more", .glo "law", .glo "Meal", .glo "Hanging", .glo "Book", .str "CLOCK" "clock", .str "LETTERS" "abcdefghijklmnopqrstuvwxyz", .int "LONGEST_NAME" 8, .free "len", .free "abs", .free "int", .free "list", .free "tuple", .free "bool", .free "str", .free "dict"]
def fa2 : List He.Fa := [.free "isinstance", .free "all", .free "any", .free "zip", .free "enumerate", .free "range", .free "sorted", .free "iter", .free "sum", .glo "EDGES", .cls "Meal", .cls "Hanging", .cls "Book", .mkr "Meal", .mkr "Hanging", .mkr "Book", .noat "Meal" "bounds", .noat "Meal" "wished", .noat "Meal" "places", .noat "Hanging" "hooks", .noat "Book" "hooks", .noat "Book" "waits", .noat "Book" "__len__", .noat "Book" "__length_hint__", .meth "Meal" "dishes", .meth "Meal" "wishes", .meth "Meal" "__iter__", .meth "Meal" "__len__", .meth "Hanging" "rows", .meth "Book" "hanging"]
def fa3 : List He.Fa := [.meth "Book" "added", .meth "Book" "__iter__"]
def faL : List He.Fa := fa0 ++ fa1 ++ fa2 ++ fa3
def exB (K : PySem.W.Frag) : Bool := He.tupB K "EDGES" [.str "start", .str "done"] && tupA K (He.dflAt ("Meal", some "__init__") 1 K) []
abbrev RR : PySem.W.OpenRow := PySem.W.OpenLaw.row PySem.Challenge.rw_cookcalls_k26_whole_shared_times_cancel
def asL : List Addr := [3, 28, 35, 40, 47, 52, 285, 292, 299, 306, 318, 325, 332, 339, 346, 441, 452, 459, 466, 473, 480, 487, 494, 499, 506, 513, 518, 575, 586, 591, 598, 605, 693, 704, 711, 718, 753, 760, 767, 774, 779, 786, 793, 800, 807, 814, 819, 826, 833, 840, 847, 27, 34, 39, 46, 51, 291, 298, 305, 317, 324, 331, 338, 345, 440, 451, 458, 465, 472, 479, 486, 493, 498, 505, 512, 517, 574, 585, 590, 597, 604, 692, 703, 710, 717, 752, 759, 766, 773, 778, 785, 792, 799, 806, 813, 818, 825, 832, 839, 846, 361, 368, 375, 410, 424, 530, 537, 617, 637, 649, 668, 360, 356, 367, 374, 409, 423, 529, 536, 616, 636, 648, 667, 355]
abbrev AlY : Type := He.AlD × Bool
def obsY (g : Addr → Option Obj) : AlY := (fun K : PySem.W.Frag => (He.obsD faL fnL K, exB K)) (He.frG g asL)
def hkX : PySem.W.Hook where
  α := AlY
  obs := fun s => obsY s.heap.get?
  val := fun _ => (He.valD fnL, true)
  says := fun _ h => ∃ K : PySem.W.Frag, K.In h ∧ (He.SaysD faL fnL K ∧ exB K = true)
  of := fun _ _ e => ⟨_, He.frG_in, congrArg (fun z : AlY => z.1) e, congrArg (fun z : AlY => z.2) e⟩
  keeps := fun _ _ _ ⟨K, hK, c⟩ k => ⟨K, PySem.W.Frag.In.keeps hK k, c⟩
def obX (s : PySem.W.SharedT) : AlY := obsY (HandSHeadRun.getT s)
theorem obX_eq (s : PySem.W.SharedT) : obX s = hkX.obs s.abs := by
  have e : HandSHeadRun.getT s = s.abs.heap.get? := funext (HandSHeadRun.getT_eq s)
  show obsY (HandSHeadRun.getT s) = obsY s.abs.heap.get?
  rw [e]
def nm0 : List Str := ["_wall", "CLOCK", "LETTERS", "LONGEST_NAME", "is_integer", "is_list", "is_name", "is_dish", "alike", "copied", "KitchenError", "BadDish", "BadWish", "BadStation", "NoDish", "Clash", "BadRow", "Round", "TooEarly", "BadTimes", "UnlikeHangings", "Unlike", "BadMoment", "EDGES", "is_bounds", "is_moment", "is_wish", "is_station", "as_moment", "as_wish"]
def nm1 : List Str := ["check_dish", "check_same", "check_moments", "Meal", "check_dishes", "check_wishes", "check_stations", "way_up", "way_of", "dish_of", "spread", "most_longer", "most_behind", "sum_of", "slacks", "Hanging", "check_rows", "is_hook", "check_rounds", "round_from", "Book", "check_entries", "is_entry", "is_wait", "check_waits", "check_times", "check_hangings", "sum_ahead", "_law_fresh", "_law_take"]
def nm2 : List Str := ["_law_one", "_law_mix", "_law_same", "_law_names", "_law_dishes", "_law_moment", "_law_wishes", "_law_hung", "_law_waiting", "_law_with", "_law_below", "_law_more"]
def nmL : List Str := nm0 ++ nm1 ++ nm2
theorem runX (w : World) : HandSHeadRun.RunEq RR (PySem.W.view RR.prog [82]) hkX obX 8000 nmL w := by
  intro os
  kernel_rfl
theorem funOf {K : PySem.W.Frag} {x qual : Str} {st : Stmt} {f : Addr} {fd : FuncData} (F : FunD K x qual (defArgs st) (defBody st) (defScope st) [] [] f fd) : Fun K x qual st f fd := by
  obtain ⟨oc, od, dV, kV, doc, pm, an, cdv, ct, osl, e, lk, hc, hd, _⟩ := F.ex
  have ed : dV = .none := hd.elim (fun z => z.2) (fun z => absurd rfl z.1)
  subst ed
  exact ⟨⟨oc, od, kV, doc, pm, an, cdv, ct, osl, e, lk, hc⟩, F.kp⟩
theorem factsX {P : Program} {w : World} {K : PySem.W.Frag} {h : Heap} {mg : Str → Option Value} {fz : Addr} (X : K.In h) (G : h.Ns mainGlobals mg) (hfa : mg ("law" : Str) = some (.ref fz)) (c : He.SaysD faL fnL K) (ex : exB K = true) :
    ∃ fd : FuncData, (∀ (s : Shared) (v : Value), BindsTo s fd ⟨[v], []⟩ [("_law_script", v)]) ∧ ∀ base : Heap, K.In base → base.Ns mainGlobals mg → FnOk P w K mg base CX0 10 fz fd ["_law_script"] (spLaw K) := by
  obtain ⟨z_is_integer, F_is_integer⟩ := c.def_ 0 (d := dd_is_integer) (by rfl)
  obtain ⟨z_is_list, F_is_list⟩ := c.def_ 1 (d := dd_is_list) (by rfl)
  obtain ⟨z_is_name, F_is_name⟩ := c.def_ 2 (d := dd_is_name) (by rfl)
  obtain ⟨z_is_dish, F_is_dish⟩ := c.def_ 3 (d := dd_is_dish) (by rfl)
  obtain ⟨z_alike, F_alike⟩ := c.def_ 4 (d := dd_alike) (by rfl)
  obtain ⟨z_is_bounds, F_is_bounds⟩ := c.def_ 5 (d := dd_is_bounds) (by rfl)
  obtain ⟨z_is_moment, F_is_moment⟩ := c.def_ 6 (d := dd_is_moment) (by rfl)
  obtain ⟨z_is_wish, F_is_wish⟩ := c.def_ 7 (d := dd_is_wish) (by rfl)
  obtain ⟨z_as_moment, F_as_moment⟩ := c.def_ 8 (d := dd_as_moment) (by rfl)
  obtain ⟨z_as_wish, F_as_wish⟩ := c.def_ 9 (d := dd_as_wish) (by rfl)
  obtain ⟨z_check_dish, F_check_dish⟩ := c.def_ 10 (d := dd_check_dish) (by rfl)
  obtain ⟨z_check_same, F_check_same⟩ := c.def_ 11 (d := dd_check_same) (by rfl)
  obtain ⟨z_check_moments, F_check_moments⟩ := c.def_ 12 (d := dd_check_moments) (by rfl)
  obtain ⟨z_Meal___init__, F_Meal___init__⟩ := c.def_ 13 (d := dd_Meal___init__) (by rfl)
  obtain ⟨z_Meal_dishes, F_Meal_dishes⟩ := c.def_ 14 (d := dd_Meal_dishes) (by rfl)
  obtain ⟨z_Meal_wishes, F_Meal_wishes⟩ := c.def_ 15 (d := dd_Meal_wishes) (by rfl)
  obtain ⟨z_Meal___len__, F_Meal___len__⟩ := c.def_ 16 (d := dd_Meal___len__) (by rfl)
  obtain ⟨z_Meal___iter__, F_Meal___iter__⟩ := c.def_ 17 (d := dd_Meal___iter__) (by rfl)
  obtain ⟨z_check_dishes, F_check_dishes⟩ := c.def_ 18 (d := dd_check_dishes) (by rfl)
  obtain ⟨z_check_wishes, F_check_wishes⟩ := c.def_ 19 (d := dd_check_wishes) (by rfl)
  obtain ⟨z_check_stations, F_check_stations⟩ := c.def_ 20 (d := dd_check_stations) (by rfl)
  obtain ⟨z_way_up, F_way_up⟩ := c.def_ 21 (d := dd_way_up) (by rfl)
  obtain ⟨z_way_of, F_way_of⟩ := c.def_ 22 (d := dd_way_of) (by rfl)
  obtain ⟨z_dish_of, F_dish_of⟩ := c.def_ 23 (d := dd_dish_of) (by rfl)
  obtain ⟨z_spread, F_spread⟩ := c.def_ 24 (d := dd_spread) (by rfl)
  obtain ⟨z_most_longer, F_most_longer⟩ := c.def_ 25 (d := dd_most_longer) (by rfl)
  obtain ⟨z_most_behind, F_most_behind⟩ := c.def_ 26 (d := dd_most_behind) (by rfl)
  obtain ⟨z_sum_of, F_sum_of⟩ := c.def_ 27 (d := dd_sum_of) (by rfl)
  obtain ⟨z_slacks, F_slacks⟩ := c.def_ 28 (d := dd_slacks) (by rfl)
  obtain ⟨z_Hanging___init__, F_Hanging___init__⟩ := c.def_ 29 (d := dd_Hanging___init__) (by rfl)
  obtain ⟨z_Hanging_rows, F_Hanging_rows⟩ := c.def_ 30 (d := dd_Hanging_rows) (by rfl)
  obtain ⟨z_check_rows, F_check_rows⟩ := c.def_ 31 (d := dd_check_rows) (by rfl)
  obtain ⟨z_is_hook, F_is_hook⟩ := c.def_ 32 (d := dd_is_hook) (by rfl)
  obtain ⟨z_check_rounds, F_check_rounds⟩ := c.def_ 33 (d := dd_check_rounds) (by rfl)
  obtain ⟨z_round_from, F_round_from⟩ := c.def_ 34 (d := dd_round_from) (by rfl)
  obtain ⟨z_Book___init__, F_Book___init__⟩ := c.def_ 35 (d := dd_Book___init__) (by rfl)
  obtain ⟨z_Book_hanging, F_Book_hanging⟩ := c.def_ 36 (d := dd_Book_hanging) (by rfl)
  obtain ⟨z_Book_added, F_Book_added⟩ := c.def_ 37 (d := dd_Book_added) (by rfl)
  obtain ⟨z_Book___iter__, F_Book___iter__⟩ := c.def_ 38 (d := dd_Book___iter__) (by rfl)
  obtain ⟨z_check_entries, F_check_entries⟩ := c.def_ 39 (d := dd_check_entries) (by rfl)
  obtain ⟨z_is_entry, F_is_entry⟩ := c.def_ 40 (d := dd_is_entry) (by rfl)
  obtain ⟨z_is_wait, F_is_wait⟩ := c.def_ 41 (d := dd_is_wait) (by rfl)
  obtain ⟨z__law_fresh, F__law_fresh⟩ := c.def_ 42 (d := dd__law_fresh) (by rfl)
  obtain ⟨z__law_take, F__law_take⟩ := c.def_ 43 (d := dd__law_take) (by rfl)
  obtain ⟨z__law_one, F__law_one⟩ := c.def_ 44 (d := dd__law_one) (by rfl)
  obtain ⟨z__law_mix, F__law_mix⟩ := c.def_ 45 (d := dd__law_mix) (by rfl)
  obtain ⟨z__law_same, F__law_same⟩ := c.def_ 46 (d := dd__law_same) (by rfl)
  obtain ⟨z__law_names, F__law_names⟩ := c.def_ 47 (d := dd__law_names) (by rfl)
  obtain ⟨z__law_dishes, F__law_dishes⟩ := c.def_ 48 (d := dd__law_dishes) (by rfl)
  obtain ⟨z__law_moment, F__law_moment⟩ := c.def_ 49 (d := dd__law_moment) (by rfl)
  obtain ⟨z__law_wishes, F__law_wishes⟩ := c.def_ 50 (d := dd__law_wishes) (by rfl)
  obtain ⟨z__law_hung, F__law_hung⟩ := c.def_ 51 (d := dd__law_hung) (by rfl)
  obtain ⟨z__law_waiting, F__law_waiting⟩ := c.def_ 52 (d := dd__law_waiting) (by rfl)
  obtain ⟨z__law_with, F__law_with⟩ := c.def_ 53 (d := dd__law_with) (by rfl)
  obtain ⟨z__law_below, F__law_below⟩ := c.def_ 54 (d := dd__law_below) (by rfl)
  obtain ⟨z__law_more, F__law_more⟩ := c.def_ 55 (d := dd__law_more) (by rfl)
  obtain ⟨z_law, F_law⟩ := c.def_ 56 (d := dd_law) (by rfl)
  have gl : ∀ {x : Str} (i : Nat), faL[i]? = some (.glo x) → mg x = some (.ref (He.ga K x)) := fun i e => He.glo_ok X G (c.fact i e)
  have fr : ∀ {x : Str} (i : Nat), faL[i]? = some (.free x) → mg x = none := fun i e => He.free_ok X G (c.fact i e)
  have e := hfa.symm.trans (gl 45 (by rfl))
  cases e
  have T : Txt K mg ({ a_is_integer := (He.ga K "is_integer"), d_is_integer := z_is_integer, a_is_list := (He.ga K "is_list"), d_is_list := z_is_list, a_is_name := (He.ga K "is_name"), d_is_name := z_is_name, a_is_dish := (He.ga K "is_dish"), d_is_dish := z_is_dish, a_alike := (He.ga K "alike"), d_alike := z_alike, a_is_bounds := (He.ga K "is_bounds"), d_is_bounds := z_is_bounds, a_is_moment := (He.ga K "is_moment"), d_is_moment := z_is_moment, a_is_wish := (He.ga K "is_wish"), d_is_wish := z_is_wish, a_as_moment := (He.ga K "as_moment"), d_as_moment := z_as_moment, a_as_wish := (He.ga K "as_wish"), d_as_wish := z_as_wish, a_check_dish := (He.ga K "check_dish"), d_check_dish := z_check_dish, a_check_same := (He.ga K "check_same"), d_check_same := z_check_same, a_check_moments := (He.ga K "check_moments"), d_check_moments := z_check_moments, a_Meal___init__ := (He.ma K (He.ga K "Meal") "__init__"), d_Meal___init__ := z_Meal___init__, a_Meal_dishes := (He.ma K (He.ga K "Meal") "dishes"), d_Meal_dishes := z_Meal_dishes, a_Meal_wishes := (He.ma K (He.ga K "Meal") "wishes"), d_Meal_wishes := z_Meal_wishes, a_Meal___len__ := (He.ma K (He.ga K "Meal") "__len__"), d_Meal___len__ := z_Meal___len__, a_Meal___iter__ := (He.ma K (He.ga K "Meal") "__iter__"), d_Meal___iter__ := z_Meal___iter__, a_check_dishes := (He.ga K "check_dishes"), d_check_dishes := z_check_dishes, a_check_wishes := (He.ga K "check_wishes"), d_check_wishes := z_check_wishes, a_check_stations := (He.ga K "check_stations"), d_check_stations := z_check_stations, a_way_up := (He.ga K "way_up"), d_way_up := z_way_up, a_way_of := (He.ga K "way_of"), d_way_of := z_way_of, a_dish_of := (He.ga K "dish_of"), d_dish_of := z_dish_of, a_spread := (He.ga K "spread"), d_spread := z_spread, a_most_longer := (He.ga K "most_longer"), d_most_longer := z_most_longer, a_most_behind := (He.ga K "most_behind"), d_most_behind := z_most_behind, a_sum_of := (He.ga K "sum_of"), d_sum_of := z_sum_of, a_slacks := (He.ga K "slacks"), d_slacks := z_slacks, a_Hanging___init__ := (He.ma K (He.ga K "Hanging") "__init__"), d_Hanging___init__ := z_Hanging___init__, a_Hanging_rows := (He.ma K (He.ga K "Hanging") "rows"), d_Hanging_rows := z_Hanging_rows, a_check_rows := (He.ga K "check_rows"), d_check_rows := z_check_rows, a_is_hook := (He.ga K "is_hook"), d_is_hook := z_is_hook, a_check_rounds := (He.ga K "check_rounds"), d_check_rounds := z_check_rounds, a_round_from := (He.ga K "round_from"), d_round_from := z_round_from, a_Book___init__ := (He.ma K (He.ga K "Book") "__init__"), d_Book___init__ := z_Book___init__, a_Book_hanging := (He.ma K (He.ga K "Book") "hanging"), d_Book_hanging := z_Book_hanging, a_Book_added := (He.ma K (He.ga K "Book") "added"), d_Book_added := z_Book_added, a_Book___iter__ := (He.ma K (He.ga K "Book") "__iter__"), d_Book___iter__ := z_Book___iter__, a_check_entries := (He.ga K "check_entries"), d_check_entries := z_check_entries, a_is_entry := (He.ga K "is_entry"), d_is_entry := z_is_entry, a_is_wait := (He.ga K "is_wait"), d_is_wait := z_is_wait, a__law_fresh := (He.ga K "_law_fresh"), d__law_fresh := z__law_fresh, a__law_take := (He.ga K "_law_take"), d__law_take := z__law_take, a__law_one := (He.ga K "_law_one"), d__law_one := z__law_one, a__law_mix := (He.ga K "_law_mix"), d__law_mix := z__law_mix, a__law_same := (He.ga K "_law_same"), d__law_same := z__law_same, a__law_names := (He.ga K "_law_names"), d__law_names := z__law_names, a__law_dishes := (He.ga K "_law_dishes"), d__law_dishes := z__law_dishes, a__law_moment := (He.ga K "_law_moment"), d__law_moment := z__law_moment, a__law_wishes := (He.ga K "_law_wishes"), d__law_wishes := z__law_wishes, a__law_hung := (He.ga K "_law_hung"), d__law_hung := z__law_hung, a__law_waiting := (He.ga K "_law_waiting"), d__law_waiting := z__law_waiting, a__law_with := (He.ga K "_law_with"), d__law_with := z__law_with, a__law_below := (He.ga K "_law_below"), d__law_below := z__law_below, a__law_more := (He.ga K "_law_more"), d__law_more := z__law_more, a_law := (He.ga K "law"), d_law := z_law, a_Meal := He.ga K "Meal", a_Hanging := He.ga K "Hanging", a_Book := He.ga K "Book", a_EDGES := (He.ga K "EDGES"), a_W0 := (He.dflAt ("Meal", some "__init__") 0 K), a_S0 := (He.dflAt ("Meal", some "__init__") 1 K) } : Ad) := {
    f_is_integer := funOf (st := s_is_integer) F_is_integer
    g_is_integer := gl 0 (by rfl)
    b_is_integer := (funOf (st := s_is_integer) F_is_integer).binds fun _ _ _ _ _ _ us hl => match us, hl with | [_], _ => rfl
    f_is_list := funOf (st := s_is_list) F_is_list
    g_is_list := gl 1 (by rfl)
    b_is_list := (funOf (st := s_is_list) F_is_list).binds fun _ _ _ _ _ _ us hl => match us, hl with | [_], _ => rfl
    f_is_name := funOf (st := s_is_name) F_is_name
    g_is_name := gl 2 (by rfl)
    b_is_name := (funOf (st := s_is_name) F_is_name).binds fun _ _ _ _ _ _ us hl => match us, hl with | [_], _ => rfl
    f_is_dish := funOf (st := s_is_dish) F_is_dish
    g_is_dish := gl 3 (by rfl)
    b_is_dish := (funOf (st := s_is_dish) F_is_dish).binds fun _ _ _ _ _ _ us hl => match us, hl with | [_, _], _ => rfl
    f_alike := funOf (st := s_alike) F_alike
    g_alike := gl 4 (by rfl)
    b_alike := (funOf (st := s_alike) F_alike).binds fun _ _ _ _ _ _ us hl => match us, hl with | [_, _], _ => rfl
    f_is_bounds := funOf (st := s_is_bounds) F_is_bounds
    g_is_bounds := gl 5 (by rfl)
    b_is_bounds := (funOf (st := s_is_bounds) F_is_bounds).binds fun _ _ _ _ _ _ us hl => match us, hl with | [_], _ => rfl
    f_is_moment := funOf (st := s_is_moment) F_is_moment
    g_is_moment := gl 6 (by rfl)
    b_is_moment := (funOf (st := s_is_moment) F_is_moment).binds fun _ _ _ _ _ _ us hl => match us, hl with | [_, _], _ => rfl
    f_is_wish := funOf (st := s_is_wish) F_is_wish
    g_is_wish := gl 7 (by rfl)
    b_is_wish := (funOf (st := s_is_wish) F_is_wish).binds fun _ _ _ _ _ _ us hl => match us, hl with | [_, _], _ => rfl
    f_as_moment := funOf (st := s_as_moment) F_as_moment
    g_as_moment := gl 8 (by rfl)
    b_as_moment := (funOf (st := s_as_moment) F_as_moment).binds fun _ _ _ _ _ _ us hl => match us, hl with | [_], _ => rfl
    f_as_wish := funOf (st := s_as_wish) F_as_wish
    g_as_wish := gl 9 (by rfl)
    b_as_wish := (funOf (st := s_as_wish) F_as_wish).binds fun _ _ _ _ _ _ us hl => match us, hl with | [_], _ => rfl
    f_check_dish := funOf (st := s_check_dish) F_check_dish
    g_check_dish := gl 10 (by rfl)
    b_check_dish := (funOf (st := s_check_dish) F_check_dish).binds fun _ _ _ _ _ _ us hl => match us, hl with | [_, _], _ => rfl
    f_check_same := funOf (st := s_check_same) F_check_same
    g_check_same := gl 11 (by rfl)
    b_check_same := (funOf (st := s_check_same) F_check_same).binds fun _ _ _ _ _ _ us hl => match us, hl with | [_, _], _ => rfl
    f_check_moments := funOf (st := s_check_moments) F_check_moments
    g_check_moments := gl 12 (by rfl)
    b_check_moments := (funOf (st := s_check_moments) F_check_moments).binds fun _ _ _ _ _ _ us hl => match us, hl with | [_, _], _ => rfl
    f_Meal___init__ := F_Meal___init__
    f_Meal_dishes := funOf (st := s_Meal_dishes) F_Meal_dishes
    b_Meal_dishes := (funOf (st := s_Meal_dishes) F_Meal_dishes).binds fun _ _ _ _ _ _ us hl => match us, hl with | [_], _ => rfl
    f_Meal_wishes := funOf (st := s_Meal_wishes) F_Meal_wishes
    b_Meal_wishes := (funOf (st := s_Meal_wishes) F_Meal_wishes).binds fun _ _ _ _ _ _ us hl => match us, hl with | [_], _ => rfl
    f_Meal___len__ := funOf (st := s_Meal___len__) F_Meal___len__
    b_Meal___len__ := (funOf (st := s_Meal___len__) F_Meal___len__).binds fun _ _ _ _ _ _ us hl => match us, hl with | [_], _ => rfl
    f_Meal___iter__ := funOf (st := s_Meal___iter__) F_Meal___iter__
    b_Meal___iter__ := (funOf (st := s_Meal___iter__) F_Meal___iter__).binds fun _ _ _ _ _ _ us hl => match us, hl with | [_], _ => rfl
    f_check_dishes := funOf (st := s_check_dishes) F_check_dishes
    g_check_dishes := gl 13 (by rfl)
    b_check_dishes := (funOf (st := s_check_dishes) F_check_dishes).binds fun _ _ _ _ _ _ us hl => match us, hl with | [_], _ => rfl
    f_check_wishes := funOf (st := s_check_wishes) F_check_wishes
    g_check_wishes := gl 14 (by rfl)
    b_check_wishes := (funOf (st := s_check_wishes) F_check_wishes).binds fun _ _ _ _ _ _ us hl => match us, hl with | [_, _], _ => rfl
    f_check_stations := funOf (st := s_check_stations) F_check_stations
    g_check_stations := gl 15 (by rfl)
    b_check_stations := (funOf (st := s_check_stations) F_check_stations).binds fun _ _ _ _ _ _ us hl => match us, hl with | [_, _], _ => rfl
    f_way_up := funOf (st := s_way_up) F_way_up
    g_way_up := gl 16 (by rfl)
    b_way_up := (funOf (st := s_way_up) F_way_up).binds fun _ _ _ _ _ _ us hl => match us, hl with | [_, _], _ => rfl
    f_way_of := funOf (st := s_way_of) F_way_of
    g_way_of := gl 17 (by rfl)
    b_way_of := (funOf (st := s_way_of) F_way_of).binds fun _ _ _ _ _ _ us hl => match us, hl with | [_, _], _ => rfl
    f_dish_of := funOf (st := s_dish_of) F_dish_of
    g_dish_of := gl 18 (by rfl)
    b_dish_of := (funOf (st := s_dish_of) F_dish_of).binds fun _ _ _ _ _ _ us hl => match us, hl with | [_], _ => rfl
    f_spread := funOf (st := s_spread) F_spread
    g_spread := gl 19 (by rfl)
    b_spread := (funOf (st := s_spread) F_spread).binds fun _ _ _ _ _ _ us hl => match us, hl with | [_, _, _, _], _ => rfl
    f_most_longer := funOf (st := s_most_longer) F_most_longer
    g_most_longer := gl 20 (by rfl)
    b_most_longer := (funOf (st := s_most_longer) F_most_longer).binds fun _ _ _ _ _ _ us hl => match us, hl with | [_, _, _], _ => rfl
    f_most_behind := funOf (st := s_most_behind) F_most_behind
    g_most_behind := gl 21 (by rfl)
    b_most_behind := (funOf (st := s_most_behind) F_most_behind).binds fun _ _ _ _ _ _ us hl => match us, hl with | [_, _, _, _], _ => rfl
    f_sum_of := funOf (st := s_sum_of) F_sum_of
    g_sum_of := gl 22 (by rfl)
    b_sum_of := (funOf (st := s_sum_of) F_sum_of).binds fun _ _ _ _ _ _ us hl => match us, hl with | [_, _], _ => rfl
    f_slacks := funOf (st := s_slacks) F_slacks
    g_slacks := gl 23 (by rfl)
    b_slacks := (funOf (st := s_slacks) F_slacks).binds fun _ _ _ _ _ _ us hl => match us, hl with | [_, _], _ => rfl
    f_Hanging___init__ := funOf (st := s_Hanging___init__) F_Hanging___init__
    b_Hanging___init__ := (funOf (st := s_Hanging___init__) F_Hanging___init__).binds fun _ _ _ _ _ _ us hl => match us, hl with | [_, _], _ => rfl
    f_Hanging_rows := funOf (st := s_Hanging_rows) F_Hanging_rows
    b_Hanging_rows := (funOf (st := s_Hanging_rows) F_Hanging_rows).binds fun _ _ _ _ _ _ us hl => match us, hl with | [_], _ => rfl
    f_check_rows := funOf (st := s_check_rows) F_check_rows
    g_check_rows := gl 24 (by rfl)
    b_check_rows := (funOf (st := s_check_rows) F_check_rows).binds fun _ _ _ _ _ _ us hl => match us, hl with | [_], _ => rfl
    f_is_hook := funOf (st := s_is_hook) F_is_hook
    g_is_hook := gl 25 (by rfl)
    b_is_hook := (funOf (st := s_is_hook) F_is_hook).binds fun _ _ _ _ _ _ us hl => match us, hl with | [_, _], _ => rfl
    f_check_rounds := funOf (st := s_check_rounds) F_check_rounds
    g_check_rounds := gl 26 (by rfl)
    b_check_rounds := (funOf (st := s_check_rounds) F_check_rounds).binds fun _ _ _ _ _ _ us hl => match us, hl with | [_], _ => rfl
    f_round_from := funOf (st := s_round_from) F_round_from
    g_round_from := gl 27 (by rfl)
    b_round_from := (funOf (st := s_round_from) F_round_from).binds fun _ _ _ _ _ _ us hl => match us, hl with | [_, _], _ => rfl
    f_Book___init__ := funOf (st := s_Book___init__) F_Book___init__
    b_Book___init__ := (funOf (st := s_Book___init__) F_Book___init__).binds fun _ _ _ _ _ _ us hl => match us, hl with | [_, _], _ => rfl
    f_Book_hanging := funOf (st := s_Book_hanging) F_Book_hanging
    b_Book_hanging := (funOf (st := s_Book_hanging) F_Book_hanging).binds fun _ _ _ _ _ _ us hl => match us, hl with | [_], _ => rfl
    f_Book_added := funOf (st := s_Book_added) F_Book_added
    b_Book_added := (funOf (st := s_Book_added) F_Book_added).binds fun _ _ _ _ _ _ us hl => match us, hl with | [_, _], _ => rfl
    f_Book___iter__ := funOf (st := s_Book___iter__) F_Book___iter__
    b_Book___iter__ := (funOf (st := s_Book___iter__) F_Book___iter__).binds fun _ _ _ _ _ _ us hl => match us, hl with | [_], _ => rfl
    f_check_entries := funOf (st := s_check_entries) F_check_entries
    g_check_entries := gl 28 (by rfl)
    b_check_entries := (funOf (st := s_check_entries) F_check_entries).binds fun _ _ _ _ _ _ us hl => match us, hl with | [_], _ => rfl
    f_is_entry := funOf (st := s_is_entry) F_is_entry
    g_is_entry := gl 29 (by rfl)
    b_is_entry := (funOf (st := s_is_entry) F_is_entry).binds fun _ _ _ _ _ _ us hl => match us, hl with | [_, _], _ => rfl
    f_is_wait := funOf (st := s_is_wait) F_is_wait
    g_is_wait := gl 30 (by rfl)
    b_is_wait := (funOf (st := s_is_wait) F_is_wait).binds fun _ _ _ _ _ _ us hl => match us, hl with | [_], _ => rfl
    f__law_fresh := funOf (st := s__law_fresh) F__law_fresh
    g__law_fresh := gl 31 (by rfl)
    b__law_fresh := (funOf (st := s__law_fresh) F__law_fresh).binds fun _ _ _ _ _ _ us hl => match us, hl with | [_], _ => rfl
    f__law_take := funOf (st := s__law_take) F__law_take
    g__law_take := gl 32 (by rfl)
    b__law_take := (funOf (st := s__law_take) F__law_take).binds fun _ _ _ _ _ _ us hl => match us, hl with | [_, _], _ => rfl
    f__law_one := funOf (st := s__law_one) F__law_one
    g__law_one := gl 33 (by rfl)
    b__law_one := (funOf (st := s__law_one) F__law_one).binds fun _ _ _ _ _ _ us hl => match us, hl with | [_, _], _ => rfl
    f__law_mix := funOf (st := s__law_mix) F__law_mix
    g__law_mix := gl 34 (by rfl)
    b__law_mix := (funOf (st := s__law_mix) F__law_mix).binds fun _ _ _ _ _ _ us hl => match us, hl with | [_, _], _ => rfl
    f__law_same := funOf (st := s__law_same) F__law_same
    g__law_same := gl 35 (by rfl)
    b__law_same := (funOf (st := s__law_same) F__law_same).binds fun _ _ _ _ _ _ us hl => match us, hl with | [_, _], _ => rfl
    f__law_names := funOf (st := s__law_names) F__law_names
    g__law_names := gl 36 (by rfl)
    b__law_names := (funOf (st := s__law_names) F__law_names).binds fun _ _ _ _ _ _ us hl => match us, hl with | [_, _], _ => rfl
    f__law_dishes := funOf (st := s__law_dishes) F__law_dishes
    g__law_dishes := gl 37 (by rfl)
    b__law_dishes := (funOf (st := s__law_dishes) F__law_dishes).binds fun _ _ _ _ _ _ us hl => match us, hl with | [_, _, _], _ => rfl
    f__law_moment := funOf (st := s__law_moment) F__law_moment
    g__law_moment := gl 38 (by rfl)
    b__law_moment := (funOf (st := s__law_moment) F__law_moment).binds fun _ _ _ _ _ _ us hl => match us, hl with | [_, _], _ => rfl
    f__law_wishes := funOf (st := s__law_wishes) F__law_wishes
    g__law_wishes := gl 39 (by rfl)
    b__law_wishes := (funOf (st := s__law_wishes) F__law_wishes).binds fun _ _ _ _ _ _ us hl => match us, hl with | [_, _, _], _ => rfl
    f__law_hung := funOf (st := s__law_hung) F__law_hung
    g__law_hung := gl 40 (by rfl)
    b__law_hung := (funOf (st := s__law_hung) F__law_hung).binds fun _ _ _ _ _ _ us hl => match us, hl with | [_, _], _ => rfl
    f__law_waiting := funOf (st := s__law_waiting) F__law_waiting
    g__law_waiting := gl 41 (by rfl)
    b__law_waiting := (funOf (st := s__law_waiting) F__law_waiting).binds fun _ _ _ _ _ _ us hl => match us, hl with | [_, _], _ => rfl
    f__law_with := funOf (st := s__law_with) F__law_with
    g__law_with := gl 42 (by rfl)
    b__law_with := (funOf (st := s__law_with) F__law_with).binds fun _ _ _ _ _ _ us hl => match us, hl with | [_, _, _], _ => rfl
    f__law_below := funOf (st := s__law_below) F__law_below
    g__law_below := gl 43 (by rfl)
    b__law_below := (funOf (st := s__law_below) F__law_below).binds fun _ _ _ _ _ _ us hl => match us, hl with | [_, _], _ => rfl
    f__law_more := funOf (st := s__law_more) F__law_more
    g__law_more := gl 44 (by rfl)
    b__law_more := (funOf (st := s__law_more) F__law_more).binds fun _ _ _ _ _ _ us hl => match us, hl with | [_, _, _, _], _ => rfl
    f_law := funOf (st := s_law) F_law
    g_law := gl 45 (by rfl)
    b_law := (funOf (st := s_law) F_law).binds fun _ _ _ _ _ _ us hl => match us, hl with | [_], _ => rfl
    g_CLOCK := He.str_ok X G (c.fact 49 (by rfl))
    g_LETTERS := He.str_ok X G (c.fact 50 (by rfl))
    g_LONGEST_NAME := He.int_ok X G (c.fact 51 (by rfl))
    len := fr 52 (by rfl)
    abs := fr 53 (by rfl)
    int := fr 54 (by rfl)
    list := fr 55 (by rfl)
    tuple := fr 56 (by rfl)
    bool := fr 57 (by rfl)
    str := fr 58 (by rfl)
    dict := fr 59 (by rfl)
    isinstance := fr 60 (by rfl)
    all := fr 61 (by rfl)
    any := fr 62 (by rfl)
    zip := fr 63 (by rfl)
    enumerate := fr 64 (by rfl)
    range := fr 65 (by rfl)
    sorted := fr 66 (by rfl)
    iter := fr 67 (by rfl)
    sum := fr 68 (by rfl)
    g_EDGES := He.glo_ok X G (c.fact (f := .glo "EDGES") 69 (by rfl))
    t_EDGES := He.tupB_ok (He.ba ex).1 _
    cl_M := He.cls_ok (c.fact (f := .cls "Meal") 70 (by rfl))
    nB := He.noat_ok (c.fact (f := .noat "Meal" "bounds") 76 (by rfl))
    nW := He.noat_ok (c.fact (f := .noat "Meal" "wished") 77 (by rfl))
    nP := He.noat_ok (c.fact (f := .noat "Meal" "places") 78 (by rfl))
    g_Meal := He.glo_ok X G (c.fact (f := .glo "Meal") 46 (by rfl))
    mkM := He.mkr_ok (c.fact (f := .mkr "Meal") 73 (by rfl))
    m_dishes := He.meth_ok (c.fact (f := .meth "Meal" "dishes") 84 (by rfl))
    m_wishes := He.meth_ok (c.fact (f := .meth "Meal" "wishes") 85 (by rfl))
    e0 := tupA_ok (He.ba ex).2 _
    b_Meal___init__ := F_Meal___init__.binds1 3 1 (show ¬ He.DefD.dvs K dd_Meal___init__ = [] from List.cons_ne_nil _ _) rfl fun _ _ _ _ _ _ _ us its hu hi => match us, its, hu, hi with | [_, _, _], [_, _], _, _ => ⟨_, rfl, rfl⟩
    m_iterM := mi_of (c.fact (f := .meth "Meal" "__iter__") 86 (by rfl))
    m_lenM := mi_of (c.fact (f := .meth "Meal" "__len__") 87 (by rfl))
    g_Hanging := He.glo_ok X G (c.fact (f := .glo "Hanging") 47 (by rfl))
    cl := He.cls_ok (c.fact (f := .cls "Hanging") 71 (by rfl))
    nH := He.noat_ok (c.fact (f := .noat "Hanging" "hooks") 79 (by rfl))
    mkH := He.mkr_ok (c.fact (f := .mkr "Hanging") 74 (by rfl))
    m_rows := He.meth_ok (c.fact (f := .meth "Hanging" "rows") 88 (by rfl))
    g_Book := He.glo_ok X G (c.fact (f := .glo "Book") 48 (by rfl))
    cl_B := He.cls_ok (c.fact (f := .cls "Book") 72 (by rfl))
    nBH := He.noat_ok (c.fact (f := .noat "Book" "hooks") 80 (by rfl))
    nBW := He.noat_ok (c.fact (f := .noat "Book" "waits") 81 (by rfl))
    mkB := He.mkr_ok (c.fact (f := .mkr "Book") 75 (by rfl))
    m_hanging := He.meth_ok (c.fact (f := .meth "Book" "hanging") 89 (by rfl))
    m_added := He.meth_ok (c.fact (f := .meth "Book" "added") 90 (by rfl))
    m_iterB := mi_of (c.fact (f := .meth "Book" "__iter__") 91 (by rfl))
    nLenB := He.noat_ok (c.fact (f := .noat "Book" "__len__") 82 (by rfl))
    nHintB := He.noat_ok (c.fact (f := .noat "Book" "__length_hint__") 83 (by rfl)) }
  refine ⟨_, fun s v => ?_, fun base _ _ => ok_law T⟩
  obtain ⟨oc, od, kV, doc, pm, an, cdv, ct, osl, e, _⟩ := (funOf (st := s_law) F_law).ex
  rw [e]
  exact .of_eq rfl
end K5
open PySem PySem.W PySem.Calls PyProof.Rows in
set_option maxHeartbeats 0 in
theorem PySem.Challenge.cw_cookcalls_k26_whole_shared_times_cancel_holds : PySem.Challenge.rw_cookcalls_k26_whole_shared_times_cancel.Holds := by
  w_on; o_law
  refine HandSHeadRun.head_any (r := OpenLaw.row PySem.Challenge.rw_cookcalls_k26_whole_shared_times_cancel) (q := view (OpenLaw.row PySem.Challenge.rw_cookcalls_k26_whole_shared_times_cancel).prog [82]) (H := K5.hkX) (ob := K5.obX) (M := 8000) (loose := K5.nmL) (d := HandSHeadRun.topDef (OpenLaw.row PySem.Challenge.rw_cookcalls_k26_whole_shared_times_cancel).prog 82) (kwd := []) K5.obX_eq
    (by kernel_rfl) (fun s => by kernel_rfl) K5.runX (by kernel_rfl) (by kernel_rfl) (by kernel_rfl) (by rfl) (by first | assumption | decide +kernel) (by decide +kernel) ⟨rfl, rfl, rfl, rfl, rfl, by decide +kernel⟩ ?hw ?hc
  case hw => w_witness2
  case hc =>
    refine L2.walk_ofE (l := PySem.Challenge.rw_cookcalls_k26_whole_shared_times_cancel) (n := 63) (k := 10) (x := "_law_script") (CX := L2.CX0) rfl (by decide) (by kernel_rfl) ⟨rfl, by decide, by decide⟩ ?F (fun _ _ _ _ z => z)
    intro w mg fz h Y G hmg0
    obtain ⟨K, KX, c⟩ := Y
    have hmg : mg ("law" : PySem.Str) = some (.ref fz) := by
      have e : (HandSHeadRun.topDef (OpenLaw.row PySem.Challenge.rw_cookcalls_k26_whole_shared_times_cancel).prog 82).name = ("law" : PySem.Str) := by kernel_rfl
      rw [← e]
      exact hmg0
    obtain ⟨fd, hb, hF⟩ := K5.factsX (P := (PySem.Challenge.rw_cookcalls_k26_whole_shared_times_cancel).prog) (w := w) KX G hmg c.1 c.2
    exact ⟨K, fd, K5.spLaw K, KX, hb, fun H a ns hl _ hS => ⟨a, ns, rfl, hS, hl, fun _ => rfl⟩, hF⟩
