import PyProof.Rows.All
import Wide.All
import OpenK.AllK
import Wide.FinOn
import HandS.ForMost
import HandS.Style
import HandS.DictComp
import HandS.Defaults
import HandS.Walk
import KE.GoesMore
import PyProof.Draws
import HandS.OwnEq
import HandS.More
import HandS.IsInst
import HandS.Words
import HandS.DeepEq
import HandS.Sort
import KE.KDictList
import HandS.Iter
import HandS.IterVal
import KE.KOwnIter
import HandS.OwnIter
import HandS.Wide
import HandS.Deep
import HandS.TupAny
import HandS.Flow
import HandS.Zip
import HandS.WordsDict
import HandS.Lambda
import HandS.TryMany
import HandS.ExcInit
import HandS.ExcField
import HandS.ForDict
import HandS.WordsExc
import PyProof.Rows.StrMeet
import HandS.EndTab
import HandS.Finally
import PySem.Challenge.RW_cookcalls_k06_hangings_told
set_option Elab.async false
set_option linter.all false
set_option maxRecDepth 100000
set_option maxHeartbeats 2000000
namespace EnT
open PySem PySem.Spec PyProof.Rows L2
/-! enumerate over a tuple, as a walk of the hand layer -/
theorem newOver {u : Value} {cell : Obj} {G : Heap → Prop} (B : Begins u cell G) :
    Meets (Builtin.«enumerate.__new__» ⟨[.type "enumerate", u], []⟩) (fun _ R z => G z.heap ∧
      R (.ok (.ret (.ref (z.heap.push cell).objs.size)))
        { z with heap := (z.heap.push cell).push { cls := .type "enumerate", data := .fields #[.none, .bool false, .ref z.heap.objs.size, rawInt 0, .none, .none] } }) :=
  .of_wp fun P w A R z hz => by
    obtain ⟨g0, gs, dr, tk, os⟩ := z; obtain ⟨hG, hR⟩ := hz
    have below := sub_enumerate
    have step : ∀ {A' : Around} {E : Value → Shared → Prop} {Q : Value → Shared → Prop}, Q (.ref g0.objs.size) ⟨g0.push cell, gs, dr, tk, os⟩ → wpAny (model P w) A' (pyIter u) Q E ⟨g0, gs, dr, tk, os⟩ :=
      fun z => B.iter P w _ _ ⟨g0, gs, dr, tk, os⟩ _ hG z
    wp_walk using step
    refine wpAny_stack_any fun _ => wpAny_pure ?_
    split
    · rename_i c _ _ _ _ _
      cases (c == Value.type "enumerate") <;> (wp_walk using step; exact ⟨_, rfl, hR⟩)
    · wp_walk using step
      exact ⟨_, rfl, hR⟩
theorem made {P : Program} {w : World} {A : Around} {E : Value → Shared → Prop} {z : Shared} {u : Value} {cell : Obj} {G : Heap → Prop} {Q : Value → Shared → Prop} (B : Begins u cell G) (hG : G z.heap)
    (k : ∀ g, IsEnum g (z.heap.objs.size + 1) z.heap.objs.size 0 .none → g.get? z.heap.objs.size = some cell → (∀ b o, z.heap.get? b = some o → g.get? b = some o) → Q (.ref (z.heap.objs.size + 1)) { z with heap := g }) :
    wpAny (model P w) A (call (.type "enumerate") [u]) Q E z := by
  refine callType_new F.called_enumerate (by decide) (F.typeCall_enumerate_1 _) (F.newCall_enumerate_1 _) (fun o => F.args_object_init_2 o _) F.entry_enumerate_new (newOver B) ⟨hG, ?_⟩
  have size : (z.heap.push cell).objs.size = z.heap.objs.size + 1 := Heap.size_push ..
  show _ ∧ _
  rw [size]
  generalize hg : (z.heap.push cell).push { cls := .type "enumerate", data := .fields #[.none, .bool false, .ref z.heap.objs.size, rawInt 0, .none, .none] } = g
  have top : IsEnum g (z.heap.objs.size + 1) z.heap.objs.size 0 .none := by
    rw [← hg, ← size]
    exact Heap.get?_push_size _ rfl
  refine ⟨⟨_, top, rfl⟩, k g top ?_ fun b o e => ?_⟩
  · rw [← hg]
    exact Heap.get?_push_of_some _ (Heap.get?_push_size _ B.free)
  · rw [← hg]
    exact Heap.get?_push_of_some _ (Heap.get?_push_of_some _ e)
/-- the tuple at a as it stands at each turn, each item in a new pair -/
def Iet (K : PySem.W.Frag) (a : Addr) : It where
  go i H := ∃ (ys : List V) (y : V), SqT K H a ys ∧ ys[i]? = some y
  yld i H v H' := ∃ T y, v = .ref T ∧ H T = none ∧ H' = upd H T (.tup [.int (i : Nat), y]) ∧ ∀ ys, SqT K H a ys → ys[i]? = some y
  stop i H := ∃ ys : List V, SqT K H a ys ∧ ys.length = i
theorem turns {P : Program} {w : World} {K : PySem.W.Frag} {elts : List Expr} {kk : Nat} {tpos : Pos} (a e j : Addr) :
    Turn P w K (.Tuple elts kk tpos) (Iet K a) [e, j] e (fun i g => (∃ old, IsEnum g e j ((i : Nat) : Int) old) ∧ g.IsTupleIter j a i ∧ e ≠ j) where
  mem := by simp
  obj := fun i g st b hb => by
    obtain ⟨⟨old, he⟩, ⟨o, ho, _, hd⟩, _⟩ := st
    have two : b = e ∨ b = j := by simpa using hb
    rcases two with q | q <;> subst q
    · exact ⟨_, he, fun v z => nomatch z⟩
    · exact ⟨o, ho, fun v z => by rw [hd] at z; cases z⟩
  keep := fun i g g' st k => by
    obtain ⟨⟨old, he⟩, hj, hne⟩ := st
    exact ⟨⟨old, k e (by simp) _ he⟩, hj.at fun o q => k j (by simp) o q, hne⟩
  item := by
    intro X hP hw hK hc i pins s σ H E I hf st hg
    subst hP hw hK
    obtain ⟨⟨old, he⟩, hj, hne⟩ := st
    obtain ⟨ys, y, hq, hy⟩ := hg
    obtain ⟨its, rv, p, _⟩ := I.tuple hq
    obtain ⟨u, hu, ru⟩ := rv.get hy
    have ht : s.heap.IsTuple a its.toArray := p
    have haj : a ≠ j := fun z => by
      obtain ⟨o1, e1, c1, _⟩ := hj
      obtain ⟨o2, e2, c2, _⟩ := ht
      rw [z, e1] at e2
      cases e2
      rw [c1] at c2
      exact absurd (Value.type.inj c2) (by decide)
    have hae : e ≠ a := fun z => by
      obtain ⟨o2, e2, c2, _⟩ := ht
      rw [← z, he] at e2
      cases e2
      exact absurd (Value.type.inj c2) (by decide)
    have lt : i < its.toArray.size := by
      have := rv.length
      have h1 := (List.getElem?_eq_some_iff.mp hy).1
      rw [List.size_toArray]
      omega
    have hel : e < s.heap.objs.size := Heap.lt_size he
    have hjl : j < s.heap.objs.size := by obtain ⟨_, q, _⟩ := hj; exact Heap.lt_size q
    refine wpAny_pyNext_enum_itemD (Draws.tuple (show X.A.in1.handled = none from I.ok.hd hc) j a haj its.toArray) he ⟨hj, ht⟩ lt hne (by simp [hne, hae]) fun x g tk hx ho hs hT hsz hk => ?_
    refine ⟨_, rfl, wpAny_letOwnedTupleGo_enum (s := { s with heap := g, toks := tk + 1 }) ho fun g' he' sb => ?_⟩
    have eu : x = u := by
      have h1 : its.toArray[i]? = some x := hx
      have h2 : its.toArray[i]? = some u := by simpa using hu
      rw [h1] at h2
      exact Option.some.inj h2
    subst eu
    have hT' : g'.get? s.heap.objs.size = some { cls := .type "tuple", data := .seq #[.int i tk, x] } := (sb.2 _ (Nat.ne_of_gt hel)).trans hT
    have fresh : ObjOk X.prog X.w (upd H s.heap.objs.size (.tup [.int (i : Nat), y])) g' s.heap.objs.size (.tup [.int (i : Nat), y]) :=
      ⟨by show 2 ≤ sizeLine; decide, [.int i tk, x], .cons ⟨_, rfl⟩ (.cons ru .nil), ⟨_, hT', rfl, _, rfl⟩⟩
    have I1 : Inv X pins σ (upd H s.heap.objs.size (.tup [.int (i : Nat), y])) { s with heap := g', toks := tk + 1 } :=
      I.turnedNew (ch := [e, j]) (fun b o hb q => (sb.2 b (fun z => hb (by simp [z]))).trans (hk b o (fun z => hb (by simp [z])) (fun z => hb (by simp [z])) q)) hf (Nat.le_refl _) fresh
    refine ⟨.ref s.heap.objs.size, _, I1, rfl, ⟨_, y, rfl, I.hok.fresh (Nat.le_refl _), rfl, fun zs hz => by rw [I.tuple_inj hz hq]; exact hy⟩, ⟨⟨x, ?_⟩, hs.1.at fun o q => (sb.2 j (Ne.symm hne)).trans q, hne⟩, fun b hb => ?_⟩
    · have e1 : ((i + 1 : Nat) : Int) = (i : Int) + 1 := by omega
      rw [e1]; exact he'
    · have old2 : b < s.heap.objs.size := by
        have two : b = e ∨ b = j := by simpa using hb
        rcases two with q | q <;> (rw [q]; assumption)
      rw [upd_ne (Nat.ne_of_lt old2)]
      exact (hf b hb).1
  done := by
    intro X hP hw hK hc i pins s σ H E I hf st hg
    subst hP hw hK
    obtain ⟨⟨old, he⟩, hj, hne⟩ := st
    obtain ⟨ys, hq, hy⟩ := hg
    obtain ⟨its, rv, p, _⟩ := I.tuple hq
    obtain ⟨f0, f1, f2, f3, f4, f5⟩ := hf j (by simp)
    have ht : s.heap.IsTuple a its.toArray := p
    have haj : a ≠ j := fun z => by
      obtain ⟨o1, e1, c1, _⟩ := hj
      obtain ⟨o2, e2, c2, _⟩ := ht
      rw [z, e1] at e2
      cases e2
      rw [c1] at c2
      exact absurd (Value.type.inj c2) (by decide)
    have sz : its.toArray.size = i := by
      have := rv.length
      rw [List.size_toArray]
      omega
    have D := Draws.tuple (prog := X.prog) (w := X.w) (show X.A.in1.handled = none from I.ok.hd hc) j a haj its.toArray
    rw [sz] at D
    exact wpAny_pyNext_enum_endD D he ⟨hj, ht⟩ fun g eb => ⟨rfl, I.turned (t' := s.toks) (fun b o hb q => eb b o hb q) f0 f1 f3 f4 f5⟩
  self := fun A i s Q E st k => by
    obtain ⟨⟨_, he⟩, _⟩ := st
    exact wpAny_pyIter_enum he k
def iEnumT (K : PySem.W.Frag) (ta : TA) : TI := fun σ H R => ta σ H fun vs H1 => ∃ a ys, vs = [V.ref a] ∧ SqT K H1 a ys ∧ R (Iet K a) H1
theorem pi_enumT {X : Cx} {e : Expr} {ta : TA} {p pos tpos : Pos} {elts : List Expr} {kk : Nat} (gl : Gl X "enumerate") (free : X.mg "enumerate" = none) (ha : PA X [e] ta) (hs : starEach [e] X.env = [(false, eval e X.env)] := by rfl) :
    PI X (.Tuple elts kk tpos) (.Call (.Name "enumerate" p) [e] [] pos) (iEnumT X.K ta) := by
  refine ⟨fun pins s σ H R I h => ?_⟩
  refine Call_ (ld_blt I gl free boot_enumerate (PyProof.Rows.callWith_type1 (thn (ha.run pos pins s σ H _ I h) fun us s1 ⟨vs, H1, I1, r1, q1⟩ => ?_) hs rfl))
  obtain ⟨a, ys, ex, hq, q⟩ := q1
  subst ex
  cases r1 with
  | cons r rr =>
    cases rr
    cases r
    obtain ⟨its, rv, p', _⟩ := I1.tuple hq
    have ht : s1.heap.IsTuple a its.toArray := p'
    refine made (begins_tuple a its.toArray) ht fun g he hj hk => wpAny_pyIter_enum he ?_
    have I2 : Inv X pins σ H1 { s1 with heap := g } := I1.kept (t' := s1.toks) hk
    refine ⟨s1.heap.objs.size + 1, [s1.heap.objs.size + 1, s1.heap.objs.size], _, _, H1, rfl, I2, turns a (s1.heap.objs.size + 1) s1.heap.objs.size, ⟨⟨.none, he⟩, ⟨_, hj, rfl, rfl⟩, Nat.succ_ne_self _⟩, fun b hb => ?_, q⟩
    have hle : s1.heap.objs.size ≤ b := by
      have two : b = s1.heap.objs.size + 1 ∨ b = s1.heap.objs.size := by simpa using hb
      rcases two with z | z <;> rw [z]
      · exact Nat.le_add_right _ _
      · exact Nat.le_refl _
    exact I1.fpOk hle (I1.hok.fresh hle)
/-- one of two walks -/
theorem pi_or {X : Cx} {tg e : Expr} {t u : TI} (h : PI X tg e t) (k : PI X tg e u) : PI X tg e (fun σ H R => t σ H R ∨ u σ H R) :=
  ⟨fun pins s σ H R I q => q.elim (h.run pins s σ H R I) (k.run pins s σ H R I)⟩
theorem walk_enumT {K : PySem.W.Frag} {a : Addr} {xs : List V} : Walk (Iet K a) xs.length (fun H => SqT K H a xs) (YPair (fun i => some (.int (i : Nat))) (fun i => xs[i]?)) :=
  ⟨fun _ _ hi q => ⟨xs, _, q, List.getElem?_eq_getElem hi⟩, fun _ q => ⟨xs, q, rfl⟩, fun i H v H' _ q y => by
    obtain ⟨T, x, h1, h2, h3, h4⟩ := y
    exact ⟨T, _, x, h1, h2, h3, rfl, h4 xs q⟩⟩
end EnT
set_option Elab.async false
set_option linter.all false
set_option maxRecDepth 100000
set_option maxHeartbeats 2000000
/-! == and != of an instance whose class has an == of its own: any answer, any other thing -/
namespace Own
open PySem PySem.Spec PyProof.Rows L2
theorem tyIs_keeps {s s' : Shared} {u : Value} {T : String} (k : ∀ b o, s.heap.get? b = some o → s'.heap.get? b = some o) (h : s.TypeIs u T) : s'.TypeIs u T := by
  cases u <;> first | exact h | (obtain ⟨o, h1, h2⟩ := h; exact ⟨o, k _ _ h1, h2⟩)
theorem looks_ty {M : Model} {s : Shared} {u : Value} {T : String} (h : s.TypeIs u T) : PySem.W.Looks M s.heap (typeOf u) (.type T) := fun A Q E s' k q => wpAny_typeOf (tyIs_keeps k h) q
/-- what stands on the other side -/
inductive Oth (K : PySem.W.Frag) (H : Hp) (C : Addr) : V → Prop
  | ty {y : V} {T : String} (h : TyB K H y T) (n : PySem.W.notFirst K C (.type T) = true) : Oth K H C y
  | ins {b D dy : Addr} {gs : List (Str × V)} (h : H b = some (.ins D dy gs)) (n : PySem.W.notFirst K C (.ref D) = true) : Oth K H C (.ref b)
theorem Oth.looks {X : Cx} {pins : List (Addr × Obj)} {σ : L2.St} {H : Hp} {s : Shared} {C : Addr} {y : V} {v : Value} (I : L2.Inv X pins σ H s) (ry : L2.RelV y v) (o : Oth X.K H C y) :
    ∃ tb, PySem.W.Looks (model X.prog X.w) s.heap (typeOf v) tb ∧ PySem.W.notFirst X.K C tb = true := by
  cases o with
  | ty h n => exact ⟨_, looks_ty (h.is I ry), n⟩
  | ins h n =>
    cases (show v = Value.ref _ from ry)
    obtain ⟨mB, J, _⟩ := ins_get I.hok h
    obtain ⟨od, J, _⟩ := J.look
    exact ⟨_, J.type, n⟩
theorem non_declines {prog : Program} {w : World} {A : Around} {E : Value → Shared → Prop} {s : Shared} (x : Addr) : wpAny (model prog w) A (tryCompare .none "__eq__" (.ref x)) (fun r s' => r = none ∧ s' = s) E s :=
  wpAny_tryCompare_declines (show s.TypeIs .none "NoneType" from rfl) F.slot_NoneType_eq_refl (call_gives F.slot_NoneType_eq_refl rfl F.entry_NoneType_eq (F.args_NoneType_eq_2 _ _) (PySem.SeqAt.NoneType___eq___none_ref_0 x) ⟨rfl, rfl, rfl⟩)
theorem dict_declines {prog : Program} {w : World} {A : Around} {E : Value → Shared → Prop} {s : Shared} {K : PySem.W.Frag} {d x C : Addr} {ox : Obj} {od : Option Obj} (hT : s.TypeIs (.ref d) "dict") (X : K.In s.heap) (I : PySem.W.InstAt s.heap x ox C od) (hsub : PySem.W.subIn K (.ref C) (.type "dict") = some false) :
    wpAny (model prog w) A (tryCompare (.ref d) "__eq__" (.ref x)) (fun r s' => r = none ∧ s' = s) E s := by
  refine wpAny_tryCompare_declines hT PySem.F.slot_dict_eq_refl (wpAny_call (codeAny_call_builtin PySem.F.slot_dict_eq_refl.plain PySem.F.entry_dict_eq (PySem.F.slot_dict_eq_refl.check _ _ _ _ _ _ _ _ hT (PySem.F.args_dict_eq_2 _ _) ?_)))
  show wpAny _ _ (Builtin.Dict.dictSlotArgs "__eq__" ⟨[.ref d, .ref x], []⟩ >>= _) _ _ s
  refine wpAny_bind ?_
  unfold Builtin.Dict.dictSlotArgs
  refine wpAny_bind (wpAny_notOrdered_dict hT ?_)
  show wpAny _ _ (pure (Value.ref d, Value.ref x)) _ _ s
  refine wpAny_pure ?_
  unfold isInstance
  refine wpAny_bind (wpAny_bind (I.type.here ((PySem.W.looks_subIn X hsub).here ?_)))
  simp only [Bool.not_false, if_true]
  refine wpAny_bind (wpAny_rule (wpAny_bind (wpAny_pure (wpAny_pure ?_))))
  first
    | exact ⟨trivial, rfl, rfl⟩
    | exact ⟨trivial, trivial, rfl⟩
    | exact ⟨trivial, rfl⟩
    | simp
section
variable {X : Cx} {CX : CXT} {C f : Addr} {fd : FuncData} {ps : List Str} {n : Nat} {sp : Sp} {E : XK}
theorem own_call (F : FnOk X.prog X.w X.K X.mg X.base CX n f fd ps sp) (hb : L2.Binds X.K fd ps []) (hx : Passes CX X E) {A : Around} (hr : Room n A) (hfr : A.frames = X.A.frames)
    {pins : List (Addr × Obj)} {s : Shared} {σ : L2.St} {H : Hp} {x y : V} {u v : Value} {R : V → Hp → Prop} (I : L2.Inv X pins σ H s) (rx : L2.RelV x u) (ry : L2.RelV y v) (hsp : sp [x, y] H R E) :
    wpAny (model X.prog X.w) A (call (.ref f) [u, v]) (fun w s' => ∃ z H', L2.RelV z w ∧ L2.Inv X pins σ H' s' ∧ R z H') X.xe s := by
  have e0 : Env0 X.prog X.w X.K X.mg X.base A X.stack s H := by
    have e := I.env0
    exact ⟨by rw [hfr]; exact e.frames, e.mod, e.bs, e.bsz, e.funs, e.frf, e.hok, e.bare⟩
  have hl := F.len _ _ _ _ hsp
  have r2 : L2.Vals [x, y] [u, v] := .cons rx (.cons ry .nil)
  refine wpAny_call (codeAny_mono (F.run A X.stack s H ⟨[u, v], []⟩ [u, v] [x, y] R E hr e0 (by
    have := hb s [u, v] I.kIn (by simpa using hl)
    simpa using this) r2 hsp) fun r s' hq => ?_)
  cases r with
  | error e => exact hx pins σ H s e s' I hq
  | ok fl =>
    cases fl with
    | ret w =>
      obtain ⟨z, H', I', rz, q⟩ := I.after hq
      exact ⟨z, H', rz, I', q⟩
    | next => exact False.elim hq
    | brk => exact False.elim hq
    | cont => exact False.elim hq
/-- the reading of x == y: the own def tells a truth -/
def rOwn (K : PySem.W.Frag) (C : Addr) (sp : Sp) (E : XK) (neg : Bool) : R2 := fun x y H Q => ∃ a dx fs, x = .ref a ∧ H a = some (.ins C dx fs) ∧ Oth K H C y ∧ sp [x, y] H (fun v H' => ∃ b : Bool, v = .bl b ∧ Q (.bl (if neg then !b else b)) H') E
theorem op_eqOwn (F : FnOk X.prog X.w X.K X.mg X.base CX n f fd ps sp) (hs : PySem.W.findIn X.K (.ref C) "__eq__" = some (some (.ref f))) (hf : PySem.W.isFn X.K (.ref f) = true) (hb : L2.Binds X.K fd ps []) (hx : Passes CX X E) (hr : Room n X.A) :
    OpR X (compareOp .Eq) (rOwn X.K C sp E false) := by
  intro pins s σ H x y u v Q I rx ry ⟨a, dx, fs, ex, ha, ho, hsp⟩
  subst ex
  cases (show u = Value.ref a from rx)
  obtain ⟨mA, J, _⟩ := ins_get I.hok ha
  obtain ⟨od, J, _⟩ := J.look
  obtain ⟨m, hF⟩ := I.fr
  obtain ⟨tb, L, hn⟩ := ho.looks I ry
  show wpAny (model X.prog X.w) X.A (richCompare .Eq (.ref a) v) (EP X pins σ Q) X.xe s
  refine PySem.W.cmp_K (op := .Eq) (tb := tb) hr.units0 hF I.ok.mod.kin J L hn hs hf ?_
  refine wpAny_mono (own_call F hb hx hr rfl I (x := .ref a) rfl ry hsp) (fun w s' h => ?_) fun _ _ h => h
  obtain ⟨z, H', rz, I', b, ez, q⟩ := h
  subst ez
  cases (show w = Value.bool b from rz)
  exact ⟨.bl b, H', I', rfl, q⟩
set_option maxHeartbeats 200000 in
theorem entry_ne {prog : Program} {w : World} {A : Around} {E : Value → Shared → Prop} {s : Shared} {K : PySem.W.Frag} {x C f : Addr} {ox : Obj} {od : Option Obj} {b : Value} {Q : Fin → Shared → Prop} (hu : A.units < cLine) (X : K.In s.heap) (I : PySem.W.InstAt s.heap x ox C od)
    (hs : PySem.W.findIn K (.ref C) "__eq__" = some (some (.ref f))) (hf : PySem.W.isFn K (.ref f) = true) (h : wpAny (model prog w) A (call (.ref f) [.ref x, b]) (fun r s' => ∃ c, r = .bool c ∧ Q (.done (.ret (.bool (!c)))) s') E s) :
    wpAny (model prog w) A (Builtin.«object.__ne__» ⟨[.ref x, b], []⟩) Q E s := by
  unfold Builtin.«object.__ne__»
  refine wpAny_bind (wpAny_pure ?_)
  refine wpAny_bind (wpAny_cRoomFor hu ?_)
  refine wpAny_bind (PySem.W.ifBound_K X I hs hf (wpAny_mono h (fun r s' hr => ?_) fun _ _ e => e))
  obtain ⟨c, rfl, q⟩ := hr
  refine wpAny_bind (wpAny_truthy_bool ?_)
  exact wpAny_pure q
theorem ifBound_objNe {M : Model} {A : Around} {E : Value → Shared → Prop} {s : Shared} {K : PySem.W.Frag} {x C : Addr} {ox : Obj} {od : Option Obj} {args : List Value} {Q : Option Value → Shared → Prop} (X : K.In s.heap) (I : PySem.W.InstAt s.heap x ox C od) (hs : PySem.W.findIn K (.ref C) "__ne__" = some (some (.builtin "object.__ne__")))
    (h : wpAny M A (call (.builtin "object.__ne__") (.ref x :: args)) (fun v => Q (some v)) E s) : wpAny M A (callSpecialIfBound? (.ref x) "__ne__" args) Q E s := by
  simp only [callSpecialIfBound?, bindSpecialIfBound?]
  refine wpAny_holding (wpAny_bind (wpAny_bind (wpAny_bind (I.type.here ((PySem.W.looks_findIn X hs).here ?_)))))
  refine wpAny_bind (wpAny_askSetting (wpAny_ite ?_))
  have fin : wpAny M A (call (.builtin "object.__ne__") ([.ref x] ++ args) >>= fun v => pure (some v)) Q E s := wpAny_bind (wpAny_mono h (fun v s' h' => wpAny_pure h') fun _ _ h' => h')
  split
  · exact wpAny_bind (wpAny_of_eq (F.cmp_object.ne.bind _) (wpAny_pure (by exact fin)))
  · exact wpAny_tryCatch (wpAny_bind (wpAny_of_eq (F.cmp_object.ne.bind _) (wpAny_pure (by exact fin))))
theorem rc_ne {prog : Program} {w : World} {A : Around} {E : Value → Shared → Prop} {s : Shared} {K : PySem.W.Frag} {x C f : Addr} {ox : Obj} {od : Option Obj} {b tb : Value} {Q : Value → Shared → Prop} (hu : A.units + 1 < cLine) (X : K.In s.heap) (I : PySem.W.InstAt s.heap x ox C od)
    (hb : PySem.W.Looks (model prog w) s.heap (typeOf b) tb) (hn : PySem.W.notFirst K C tb = true) (hm : PySem.W.mroIn K C (.type "object") = some true) (hne : PySem.W.findIn K (.ref C) "__ne__" = some (some (.builtin "object.__ne__")))
    (hs : PySem.W.findIn K (.ref C) "__eq__" = some (some (.ref f))) (hf : PySem.W.isFn K (.ref f) = true) (h : wpAny (model prog w) A.in1 (call (.ref f) [.ref x, b]) (fun r s' => ∃ c, r = .bool c ∧ Q (.bool (!c)) s') E s) :
    wpAny (model prog w) A (richCompare .NotEq (.ref x) b) Q E s := by
  have one : wpAny (model prog w) A (tryCompare (.ref x) "__ne__" b) (fun r s' => ∃ v, r = some v ∧ Q v s') E s := by
    unfold tryCompare
    refine wpAny_bind (ifBound_objNe X I hne (wpAny_call (codeAny_call_builtin F.cmp_object.ne.plain F.cmpEntry_ne (PySem.W.check_slot F.cmpKind_ne F.cmpSplit_ne (I.type.andThen (PySem.W.looks_mroIn X hm)) (F.cmpArgs_ne _ _)
      (entry_ne (by show A.units + 1 < cLine; exact hu) X I hs hf (wpAny_mono h (fun r s' hr => ?_) fun _ _ e => e))))))
    obtain ⟨c, rfl, q⟩ := hr
    exact ⟨c, rfl, wpAny_pure ⟨_, rfl, q⟩⟩
  unfold richCompare
  simp only [oneThing_ref]
  refine wpAny_holding (wpAny_bind (wpAny_cRoomFor (by omega) ?_))
  refine wpAny_bind (I.type.here (wpAny_bind (hb.here ?_)))
  split
  · rename_i q
    have e : PySem.W.subIn K tb (.ref C) = some false := by
      rcases Bool.or_eq_true_iff.mp hn with e | e
      · rw [beq_iff_eq.mp e] at q; simp at q
      · exact beq_iff_eq.mp e
    refine wpAny_bind ((PySem.W.looks_subIn X e).here ?_)
    simp only [Bool.false_eq_true, if_false]
    refine wpAny_bind (wpAny_mono one (fun r s' z => ?_) fun _ _ e => e)
    obtain ⟨v, rfl, hq⟩ := z
    exact wpAny_pure hq
  · refine wpAny_bind (wpAny_pure ?_)
    simp only [Bool.false_eq_true, if_false]
    refine wpAny_bind (wpAny_mono one (fun r s' z => ?_) fun _ _ e => e)
    obtain ⟨v, rfl, hq⟩ := z
    exact wpAny_pure hq
theorem op_neOwn (F : FnOk X.prog X.w X.K X.mg X.base CX n f fd ps sp) (hne : PySem.W.findIn X.K (.ref C) "__ne__" = some (some (.builtin "object.__ne__"))) (hm : PySem.W.mroIn X.K C (.type "object") = some true)
    (hs : PySem.W.findIn X.K (.ref C) "__eq__" = some (some (.ref f))) (hf : PySem.W.isFn X.K (.ref f) = true) (hb : L2.Binds X.K fd ps []) (hx : Passes CX X E) (hr : Room (n + 1) X.A) :
    OpR X (compareOp .NotEq) (rOwn X.K C sp E true) := by
  intro pins s σ H x y u v Q I rx ry ⟨a, dx, fs, ex, ha, ho, hsp⟩
  subst ex
  cases (show u = Value.ref a from rx)
  obtain ⟨mA, J, _⟩ := ins_get I.hok ha
  obtain ⟨od, J, _⟩ := J.look
  obtain ⟨tb, L, hn⟩ := ho.looks I ry
  show wpAny (model X.prog X.w) X.A (richCompare .NotEq (.ref a) v) (EP X pins σ Q) X.xe s
  have un := hr.un
  refine rc_ne (by omega) I.kIn J L hn hm hne hs hf ?_
  refine wpAny_mono (own_call F hb hx hr.in1 rfl I (x := .ref a) rfl ry hsp) (fun w s' h => ?_) fun _ _ h => h
  obtain ⟨z, H', rz, I', b, ez, q⟩ := h
  subst ez
  cases (show w = Value.bool b from rz)
  exact ⟨b, rfl, .bl (!b), H', I', rfl, q⟩
/-- what is built in on the left declines, then the own == is asked -/
theorem rc_left {prog : Program} {w : World} {A : Around} {E : Value → Shared → Prop} {s : Shared} {K : PySem.W.Frag} {x C f : Addr} {ox : Obj} {od : Option Obj} {a : Value} {T : String} {Q : Value → Shared → Prop} (hu : A.units < cLine) (X : K.In s.heap) (I : PySem.W.InstAt s.heap x ox C od)
    (hT : s.TypeIs a T) (hsub : PySem.W.subIn K (.ref C) (.type T) = some false) (ho : oneThing? .Eq a (.ref x) = none)
    (one : wpAny (model prog w) A (tryCompare a "__eq__" (.ref x)) (fun r s' => r = none ∧ s' = s) E s)
    (hs : PySem.W.findIn K (.ref C) "__eq__" = some (some (.ref f))) (hf : PySem.W.isFn K (.ref f) = true) (h : wpAny (model prog w) A (call (.ref f) [.ref x, a]) (fun r s' => ∃ c, r = .bool c ∧ Q (.bool c) s') E s) :
    wpAny (model prog w) A (richCompare .Eq a (.ref x)) Q E s := by
  have two : wpAny (model prog w) A (tryCompare (.ref x) "__eq__" a) (fun r s' => ∃ v, r = some v ∧ Q v s') E s := by
    unfold tryCompare
    refine wpAny_bind (PySem.W.ifBound_K X I hs hf (wpAny_mono h (fun v s' hv => ?_) fun _ _ e => e))
    obtain ⟨c, rfl, q⟩ := hv
    exact wpAny_pure ⟨_, rfl, q⟩
  simp only [richCompare, cmpInfo_Eq, ho]
  refine wpAny_holding (wpAny_bind (wpAny_cRoomFor hu ?_))
  refine wpAny_bind (wpAny_typeOf hT ?_)
  refine wpAny_bind (I.type.here ?_)
  split
  · refine wpAny_bind ((PySem.W.looks_subIn X hsub).here ?_)
    simp only [Bool.false_eq_true, if_false, Bool.not_false, if_true]
    refine wpAny_bind (m := tryCompare a _ (.ref x)) (wpAny_mono one (fun r s1 z => ?_) fun _ _ e => e)
    obtain ⟨z1, z2⟩ := z
    subst z1
    subst z2
    refine wpAny_bind (m := tryCompare (.ref x) _ a) (wpAny_mono two (fun r s2 z => ?_) fun _ _ e => e)
    obtain ⟨v, rfl, q⟩ := z
    exact wpAny_pure q
  · rename_i q
    exact absurd (by simp) q
/-- None == x -/
def rNonL (C : Addr) (sp : Sp) (E : XK) : R2 := fun x y H Q => x = .non ∧ ∃ a dx fs, y = .ref a ∧ H a = some (.ins C dx fs) ∧ sp [y, .non] H (fun v H' => ∃ b : Bool, v = .bl b ∧ Q (.bl b) H') E
theorem op_eqNonL (F : FnOk X.prog X.w X.K X.mg X.base CX n f fd ps sp) (hsub : PySem.W.subIn X.K (.ref C) (.type "NoneType") = some false)
    (hs : PySem.W.findIn X.K (.ref C) "__eq__" = some (some (.ref f))) (hf : PySem.W.isFn X.K (.ref f) = true) (hb : L2.Binds X.K fd ps []) (hx : Passes CX X E) (hr : Room n X.A) :
    OpR X (compareOp .Eq) (rNonL C sp E) := by
  intro pins s σ H x y u v Q I rx ry ⟨ex, a, dx, fs, ey, ha, hsp⟩
  subst ex
  subst ey
  cases (show u = Value.none from rx)
  cases (show v = Value.ref a from ry)
  obtain ⟨mA, J, _⟩ := ins_get I.hok ha
  obtain ⟨od, J, _⟩ := J.look
  show wpAny (model X.prog X.w) X.A (richCompare .Eq .none (.ref a)) (EP X pins σ Q) X.xe s
  refine rc_left hr.units0 I.kIn J (show s.TypeIs .none "NoneType" from rfl) hsub rfl (non_declines a) hs hf ?_
  refine wpAny_mono (own_call F hb hx hr rfl I (x := .ref a) (y := .non) rfl rfl hsp) (fun w s' h => ?_) fun _ _ h => h
  obtain ⟨z, H', rz, I', b, ez, q⟩ := h
  subst ez
  cases (show w = Value.bool b from rz)
  exact ⟨b, rfl, .bl b, H', I', rfl, q⟩
/-- {..} == x -/
def rDctL (C : Addr) (sp : Sp) (E : XK) : R2 := fun x y H Q => ∃ d kvs a dx fs, x = .ref d ∧ H d = some (.dK kvs) ∧ y = .ref a ∧ H a = some (.ins C dx fs) ∧ sp [y, x] H (fun v H' => ∃ b : Bool, v = .bl b ∧ Q (.bl b) H') E
theorem op_eqDctL (F : FnOk X.prog X.w X.K X.mg X.base CX n f fd ps sp) (hsub : PySem.W.subIn X.K (.ref C) (.type "dict") = some false)
    (hs : PySem.W.findIn X.K (.ref C) "__eq__" = some (some (.ref f))) (hf : PySem.W.isFn X.K (.ref f) = true) (hb : L2.Binds X.K fd ps []) (hx : Passes CX X E) (hr : Room n X.A) :
    OpR X (compareOp .Eq) (rDctL C sp E) := by
  intro pins s σ H x y u v Q I rx ry ⟨d, kvs, a, dx, fs, ex, hd, ey, ha, hsp⟩
  subst ex
  subst ey
  cases (show u = Value.ref d from rx)
  cases (show v = Value.ref a from ry)
  obtain ⟨mA, J, _⟩ := ins_get I.hok ha
  obtain ⟨od, J, _⟩ := J.look
  show wpAny (model X.prog X.w) X.A (richCompare .Eq (.ref d) (.ref a)) (EP X pins σ Q) X.xe s
  have hT : s.TypeIs (.ref d) "dict" := TyB.is I (x := .ref d) rfl (.dK hd)
  refine rc_left hr.units0 I.kIn J hT hsub rfl (dict_declines hT I.kIn J hsub) hs hf ?_
  refine wpAny_mono (own_call F hb hx hr rfl I (x := .ref a) (y := .ref d) rfl rfl hsp) (fun w s' h => ?_) fun _ _ h => h
  obtain ⟨z, H', rz, I', b, ez, q⟩ := h
  subst ez
  cases (show w = Value.bool b from rz)
  exact ⟨b, rfl, .bl b, H', I', rfl, q⟩
end
/-! ### dicts of flat things: == of any answer -/
def eqKv (ks ls : List (Key × V)) : Bool := ks.all fun p => match valV ls p.1 with | some u => eqV p.2 u | none => false
theorem hits_flat {P : Program} {w : World} {A : Around} {s : Shared} {ls : List (Key × V)} {vb : List (Key × Value)} (rb : KV ls vb) (fl : ∀ k u, valV ls k = some u → flatV u = true) {ks : List (Key × V)} {va : List (Key × Value)}
    (ra : KV ks va) : (∀ p ∈ ks, flatV p.2 = true) → PySem.W.KeqHitsP P w A s vb va (eqKv ks ls) := by
  unfold KV at ra
  induction ra with
  | nil => intro _; exact .nil
  | @cons p q ps qs h t k =>
    intro hp
    obtain ⟨h1, h2⟩ := h
    have rr : RelO (valV ls p.1) (valueAt vb p.1) := rb.val p.1
    obtain ⟨key, v⟩ := q
    have h1' : p.1 = key := h1
    have rest := k fun p' hm => hp p' (List.mem_cons_of_mem _ hm)
    cases e : valV ls p.1 with
    | none =>
      rw [e] at rr
      have hn : valueAt vb key = none := by
        rw [← h1']
        cases hv : valueAt vb p.1 with
        | none => rfl
        | some z => rw [hv] at rr; exact rr.elim
      have hb : eqKv (p :: ps) ls = false := by unfold eqKv; rw [List.all_cons, e]; rfl
      rw [hb]
      exact .miss hn
    | some u =>
      rw [e] at rr
      obtain ⟨y, hy, ry⟩ := rr.some_of
      rw [h1'] at hy
      have hb : eqKv (p :: ps) ls = (eqV p.2 u && eqKv ps ls) := by unfold eqKv; rw [List.all_cons, e]
      rw [hb]
      exact .hit hy (eqAt_V h2 ry (hp p List.mem_cons_self) (fl _ _ e)).eqP rest
/-- the reading of a == b -/
def rEqDF : R2 := fun x y H Q => ∃ a b ks ls, x = .ref a ∧ y = .ref b ∧ H a = some (.dK ks) ∧ H b = some (.dK ls) ∧ (∀ p ∈ ks, flatV p.2 = true) ∧ (∀ k u, valV ls k = some u → flatV u = true) ∧ Q (.bl (ks.length == ls.length && eqKv ks ls)) H
theorem op_eqDF {X : Cx} (hu : X.A.units + 64 < cLine) : OpR X (compareOp .Eq) rEqDF := by
  intro pins s σ H x y v u Q I rx ry ⟨a, b, ks, ls, ex, ey, ha, hb, f1, f2, q⟩
  subst ex
  subst ey
  cases (show v = Value.ref a from rx)
  cases (show u = Value.ref b from ry)
  obtain ⟨_, ya, va, ra, da⟩ := (show ObjOk X.prog X.w H s.heap a (.dK ks) from I.hok a _ ha)
  obtain ⟨_, yb, vb, rb, db⟩ := (show ObjOk X.prog X.w H s.heap b (.dK ls) from I.hok b _ hb)
  have la : ks.length = va.length := by unfold KV at ra; exact ra.length
  have lb : ls.length = vb.length := by unfold KV at rb; exact rb.length
  refine PySem.W.rcP_dicts (knd := mixKind X.prog X.w) (r := eqKv ks ls) ya yb da db (by omega) (fun _ => hits_flat rb f2 ra f1) _ _ ?_
  rw [← la, ← lb]
  exact ⟨.bl _, H, I, rfl, q⟩
/-! ### list(d.values()) -/
theorem paired_ix {α β : Type} {R : α → β → Prop} : ∀ {xs : List α} {ys : List β}, xs.length = ys.length → (∀ (i : Nat) (y : β), ys[i]? = some y → ∃ x, xs[i]? = some x ∧ R x y) → Paired R xs ys
  | [], [], _, _ => .nil
  | x :: xs, y :: ys, h, k => by
    obtain ⟨x', e, r⟩ := k 0 y rfl
    cases e
    exact .cons r (paired_ix (Nat.succ.inj h) fun i z hz => k (i + 1) z hz)
  | [], _ :: _, h, _ => nomatch h
  | _ :: _, [], h, _ => nomatch h
def tListVals (td : TE) : TE := fun σ H Q => td σ H fun x H1 => ∃ a kvs, x = V.ref a ∧ H1 a = some (.dK kvs) ∧ ∀ p, H1 p = none → Q (.ref p) (upd H1 p (.lst (kvs.map (·.2))))
theorem pe_listVals {X : Cx} {o : Expr} {td : TE} {p pos apos mpos : Pos} (hc : X.calm = true) (hg : Gl X "list") (hm : X.mg "list" = none) (hd : PE X o td) (hbase : attributeBase o "values" X.env (eval o X.env) = eval o X.env := by rfl) (hline : (apos.endLine == mpos.line) = true := by rfl)
    (hse : starEach [Expr.Call (.Attribute o "values" apos) [] [] mpos] X.env = [(false, eval (Expr.Call (.Attribute o "values" apos) [] [] mpos) X.env)] := by rfl) :
    PE X (.Call (.Name "list" p) [.Call (.Attribute o "values" apos) [] [] mpos] [] pos) (tListVals td) := by
  refine ⟨fun pins s σ H Q I h => ?_⟩
  refine wpAny_Call_Name_kw (ld_blt I hg hm (u := .type "list") (by first | rfl | decide +kernel) ?_ (by first | decide +kernel | decide) (by first | decide +kernel | decide))
  rw [hse]
  refine PySem.callWith_type1 (wpAny_Call_method0_late hbase hline (thn (hd.run pins s σ H _ I h) fun v s1 ⟨x, H1, I1, r1, a, kvs, ex, ha, q⟩ => ?_))
  subst ex
  obtain rfl : v = Value.ref a := r1
  obtain ⟨hz, hsys, vs, rel, dof⟩ := dk_of I1.hok ha
  obtain ⟨ep, dat⟩ := dof.dictAt
  have dat' := dat
  obtain ⟨ob, es, ho, ex, hdat, hko, hpr, hnd⟩ := dat'
  refine ⟨"dict", "dict.values", F.plainAttrs_dict, F.slot_dict_values, F.type_dict_values, ⟨ob, ho, ex.1⟩, fun b e => ?_, Calls.callWith_builtin rfl (PySem.evalArgs_none ?_)⟩
  · cases e
    exact ⟨ob, ho, ex.2.1⟩
  refine call_meetsIn F.slot_dict_values ⟨ob, ho, ex.1⟩ F.entry_dict_values (F.args_dict_values_1 _) (meets_dict_values (mixKind X.prog X.w) a hsys) ⟨⟨vs, dof⟩, ?_⟩
  have k1 : ∀ b u, s1.heap.get? b = some u → (s1.heap.push { cls := .type "dict_values", data := .fields #[.ref a] }).get? b = some u := fun b u e => Heap.get?_push_of_some _ e
  have dat1 : (s1.heap.push { cls := .type "dict_values", data := .fields #[.ref a] }).DictAt (mixKind X.prog X.w) a vs ep := dat.keep k1
  have I2 : L2.Inv X pins σ H1 { s1 with heap := s1.heap.push { cls := .type "dict_values", data := .fields #[.ref a] } } := I1.kept (t' := s1.toks) k1
  have hlv : kvs.length = vs.length := by unfold KV at rel; exact rel.length
  refine PySem.W.kdl_call (s := { s1 with heap := s1.heap.push { cls := .type "dict_values", data := .fields #[.ref a] } }) (PySem.W.kdl_values (knd := mixKind X.prog X.w) (kvs := vs) (ep := ep) (r := s1.heap.objs.size) (d := a)) (I.ok.hd hc) ⟨⟨_, Heap.get?_push_size _ rfl, rfl, rfl⟩, dat1⟩ (by rw [← hlv]; exact hz) fun h' tk acc c' hk hD hacc => ?_
  have hv : L2.Vals (kvs.map (·.2)) acc.toList := by
    refine paired_ix (by rw [List.length_map, Array.length_toList]; exact hlv.trans hacc.1.symm) fun i v e => ?_
    obtain ⟨k, hk2⟩ := hacc.2 i v (by rw [← Array.getElem?_toList]; exact e)
    obtain ⟨x, h1, h2⟩ := KV.at' rel hk2
    exact ⟨x, by rw [List.getElem?_map, h1] <;> rfl, h2⟩
  refine ⟨.ref _, upd H1 _ (.lst (kvs.map (·.2))), I2.laid (t' := tk) hk (Nat.le_refl _)
    (show ObjOk X.prog X.w _ _ _ (.lst (kvs.map (·.2))) from ⟨by rw [List.length_map]; exact hz, acc.toList, c', hv, by rw [Array.toArray_toList]; exact hD⟩), rfl, q _ (I2.hok.fresh (Nat.le_refl _))⟩
end Own
set_option Elab.async false
set_option linter.all false
set_option maxRecDepth 100000
set_option maxHeartbeats 2000000
/-! x in d.values(); iter(d); what is walked of an instance whose own __iter__ returns iter(d) -/
namespace Own
open PySem PySem.Spec PyProof.Rows L2
/-! ### d.values() as a value, and x in it -/
def VvO (d v : Addr) : HO := .ext fun h => h.IsValuesView v d
theorem mt_values {X : Cx} : MtR X "dict.values" (fun x vs H Q => ∃ (d : Addr) (kvs : List (Key × V)), x = .ref d ∧ vs = [] ∧ H d = some (.dK kvs) ∧ ∀ v, H v = none → Q (.ref v) (upd H v (VvO d v))) := by
  intro pins s σ H x xs v us Q I rx rv ⟨d, kvs, ex, e0, hd, q⟩
  subst ex
  subst e0
  cases rv
  cases (show v = Value.ref d from rx)
  obtain ⟨hz, hsys, vs, rel, dof⟩ := dk_of I.hok hd
  refine call_meetsIn F.slot_dict_values dof.typeIs F.entry_dict_values (F.args_dict_values_1 _) (meets_dict_values (mixKind X.prog X.w) d hsys) ⟨⟨vs, dof⟩, ?_⟩
  have hg : (s.heap.push { cls := .type "dict_values", data := .fields #[.ref d] }).get? s.heap.objs.size = some { cls := .type "dict_values", data := .fields #[.ref d] } := Heap.get?_push_size _ rfl
  refine ⟨.ref s.heap.objs.size, upd H _ (VvO d _), I.laid (t' := s.toks) (fun b u e => Heap.get?_push_of_some _ e) (Nat.le_refl _) ?_, rfl, q _ (I.hok.fresh (Nat.le_refl _))⟩
  exact ⟨⟨_, hg, rfl, rfl⟩, ⟨_, hg⟩, fun h1 h2 ⟨o, e, r⟩ k => ⟨o, k _ e, r⟩⟩
theorem entry_citer : entryFor table "proto.contains_iter" = some Builtin.«proto.contains_iter» := entryFor_of_fast (by kernel_rfl)
theorem plain_citer : plainId "proto.contains_iter" = true := by decide +kernel
theorem vals_noc : typeLookup (.type "dict_values") "__contains__" = pure none := by rw [typeLookup_type, builtinLookup_eq_fast]; kernel_rfl
section
variable {prog : Program} {w : World} {A : Around} {I : Addr} {fp wr : List Addr} {vs : List Value} {St : Nat → Heap → Prop}
theorem citer_loop {R : Result → Shared → Prop} (W : Walks prog w A.in1 I fp wr vs.length (fun i v => vs[i]? = some v) St) (x : Value) (r : Value → Bool) (heq : ∀ v ∈ vs, ∀ s, SeqAt.EqAt A.in1 s v x (r v)) :
    ∀ (k i : Nat) (s : Shared), vs.length - i = k → i ≤ vs.length → St i s.heap →
    (∀ h' tk, (∀ b o, b ∉ wr → s.heap.get? b = some o → h'.get? b = some o) → R (.ok (.ret (.bool ((vs.drop i).any r)))) { s with heap := h', toks := tk }) →
    codeAny (model prog w) A (.builtin "proto.contains_iter" ⟨[.ref I, x], []⟩) R s := by
  intro k
  induction k with
  | zero =>
    intro i s hk hi hst hR
    have e : i = vs.length := by omega
    subst e
    refine codeAny_builtin entry_citer ?_
    rw [Around.under_plainId plain_citer _]
    show wpAny _ A.in1 (pyNext (.ref I) >>= _) _ _ s
    refine wpAny_bind (W.done s _ _ hst fun h' tk hm => ?_)
    have q := hR h' tk hm
    rw [List.drop_length] at q
    exact wpAny_bind (wpAny_rule (wpAny_pure q))
  | succ k ih =>
    intro i s hk hi hst hR
    have hlt : i < vs.length := by omega
    refine codeAny_builtin entry_citer ?_
    rw [Around.under_plainId plain_citer _]
    show wpAny _ A.in1 (pyNext (.ref I) >>= _) _ _ s
    refine wpAny_bind (W.item i s _ _ hlt hst fun v h' tk hP hst' hm => ?_)
    have hv : vs[i] = v := by rw [List.getElem?_eq_getElem hlt] at hP; exact Option.some.inj hP
    show wpAny _ A.in1 (eqBool v x >>= _) _ _ _
    refine wpAny_bind (heq v (List.mem_of_getElem? hP) _ _ _ _ _ ?_)
    have ed : (vs.drop i).any r = (r v || (vs.drop (i + 1)).any r) := by rw [List.drop_eq_getElem_cons hlt, List.any_cons, hv]
    cases hr : r v with
    | true =>
      rw [ed, hr, Bool.true_or] at hR
      refine wpAny_bind (wpAny_rule (wpAny_pure (hR h' tk hm)))
    | false =>
      rw [ed, hr, Bool.false_or] at hR
      exact wpAny_pure ⟨plainId_quiet plain_citer _, ih (i + 1) { s with heap := h', toks := tk } (by omega) hlt hst' fun h2 tk2 hm2 => hR h2 tk2 fun b o nb e => hm2 b o nb (hm b o nb e)⟩
end
def rInVals (K : PySem.W.Frag) : R2 := fun x y H Q => ∃ v d kvs, y = .ref v ∧ H v = some (VvO d v) ∧ Rd H d (.dK kvs) ∧ flatV x = true ∧ (kvs.map (·.2)).all flatV = true ∧ Q (.bl (inV x (kvs.map (·.2)))) H
theorem op_inVals {X : Cx} (hc : X.calm = true) : OpR X (compareOp .In) (rInVals X.K) := by
  intro pins s σ H x y v u Q I rx ry ⟨va, d, kvs, ey, hv, hd, fx, fs, q⟩
  subst ey
  cases (show u = Value.ref va from ry)
  have view : s.heap.IsValuesView va d := (show ObjOk X.prog X.w H s.heap va (VvO d va) from I.hok va _ hv).1
  obtain ⟨hz, hsys, vs, rel, dof⟩ := dk_rd I.hok hd
  obtain ⟨ep, dat⟩ := dof.dictAt
  have hT := view.typeIs
  have hlv : kvs.length = vs.length := by unfold KV at rel; exact rel.length
  have hvals : Vals (kvs.map (·.2)) (vs.map (·.2)) := paired_ix (by rw [List.length_map, List.length_map]; exact hlv) fun i z e => by
    rw [List.getElem?_map] at e
    cases e2 : vs[i]? with
    | none => rw [e2] at e; cases e
    | some p =>
      rw [e2] at e
      obtain ⟨y, h1, h2⟩ := KV.at' rel (i := i) (k := p.1) (v := p.2) e2
      obtain rfl : p.2 = z := Option.some.inj e
      exact ⟨y, by rw [List.getElem?_map, h1]; rfl, h2⟩
  show wpAny (model X.prog X.w) X.A ((contains (.ref va) v) >>= fun b => pure (Value.bool b)) (EP X pins σ Q) X.xe s
  refine wpAny_bind ?_
  unfold contains
  refine wpAny_holding ?_
  have e0 : stdlibNamesSay? (.ref va) v = none := by
    first | rfl | (cases v <;> rfl)
  simp only [e0]
  refine wpAny_bind (wpAny_specialOf hT vals_noc ?_)
  refine wpAny_ite_split (fun hab => absurd hab (by decide)) (fun _ => ?_)
  unfold callSpecialUnlessNone?
  refine wpAny_bind (wpAny_bind (wpAny_specialOf hT vals_noc ?_))
  refine wpAny_pure ?_
  refine wpAny_bind (wpAny_rule ?_)
  refine wpAny_bind (wpAny_tryCatch (wpAny_pyIter_values (knd := mixKind X.prog X.w) view dat ?_))
  have kp : ∀ b o, s.heap.get? b = some o → (s.heap.push { cls := .type "dict_valueiterator", data := .fields #[.ref d, .int 0 0, .int vs.length 0, .int ep 0] }).get? b = some o := fun b o e => Heap.get?_push_of_some _ e
  have hit : (s.heap.push { cls := .type "dict_valueiterator", data := .fields #[.ref d, .int 0 0, .int vs.length 0, .int ep 0] }).IsValIter s.heap.objs.size d 0 vs.length ep := ⟨_, Heap.get?_push_size _ rfl, rfl, rfl⟩
  have ne : d ≠ s.heap.objs.size := Nat.ne_of_lt dat.lt_size
  have W := Walks.dictValues (prog := X.prog) (w := X.w) (A := X.A.in1.in1) (knd := mixKind X.prog X.w) (I.ok.hd hc) s.heap.objs.size d ne vs ep
  have ln : (vs.map (·.2)).length = vs.length := List.length_map ..
  have W2 : Walks X.prog X.w X.A.in1 s.heap.objs.size [s.heap.objs.size, d] [s.heap.objs.size] (vs.map (·.2)).length (fun i v => (vs.map (·.2))[i]? = some v) (fun i h => h.IsValIter s.heap.objs.size d i vs.length ep ∧ h.DictAt (mixKind X.prog X.w) d vs ep) :=
    ⟨W.of_in1.sub, W.of_in1.frame, fun i s Q E hi st hQ => W.of_in1.item i s Q E (by rw [ln] at hi; exact hi) st fun z h' tk hP => hQ z h' tk (by
      obtain ⟨k, e⟩ := hP
      rw [List.getElem?_map, e]
      rfl), fun s Q E st hQ => W.of_in1.done s Q E (by rw [ln] at st; exact st) hQ, W.of_in1.self⟩
  refine wpAny_bind (wpAny_runValue (citer_loop W2 v (eqU x) (fun z hz s' => mem_eqAt rx ‹_› hvals fs z hz) _ 0 { s with heap := _ } rfl (Nat.zero_le _) ⟨hit, dat.push _⟩ fun h' tk hm => ?_))
  have kp2 : ∀ b o, s.heap.get? b = some o → h'.get? b = some o := fun b o e => hm b o (fun z => by
    rw [List.mem_singleton.mp z] at e
    exact Nat.lt_irrefl _ (Heap.lt_size e)) (kp b o e)
  have fin : wpAny (model X.prog X.w) X.A (pure (Value.bool (inV x (kvs.map (·.2))))) (EP X pins σ Q) X.xe { s with heap := h', toks := tk } := wpAny_pure ⟨.bl _, H, I.kept (t' := tk) kp2, rfl, q⟩
  rw [List.drop_zero, any_eqU hvals fs]
  exact wpAny_pure fin
theorem inValsOf {X : Cx} {K : PySem.W.Frag} (h : X.K = K) (hc : X.calm = true) : OpR X (compareOp .In) (rInVals K) := h ▸ op_inVals hc
theorem bm0Of {X : Cx} {K : PySem.W.Frag} (h : X.K = K) {T id : String} {name : Str} {o : Expr} {to : TE} {r : V → List V → Hp → VK → Prop} {apos cpos : Pos} (pa : PlainAttrs T) (slot : Slot T name id) (hty : typeOf (.builtin id) = pure (.type "method_descriptor")) (hm : MtR X id r) (ho : PE X o to)
    (hbase : attributeBase o name X.env (eval o X.env) = eval o X.env := by rfl) (hline : (apos.endLine == cpos.line) = true := by rfl) : PE X (.Call (.Attribute o name apos) [] [] cpos) (tBM0 K T r to) := h ▸ pe_bm0 pa slot hty hm ho hbase hline
end Own
set_option Elab.async false
set_option linter.all false
set_option maxRecDepth 100000
set_option maxHeartbeats 2000000
/-! iter(d); what is walked of an instance whose own __iter__ returns iter(d) -/
namespace Own
open PySem PySem.Spec PyProof.Rows L2
/-! ### a base as large as the heap of a call -/
def padTo (h : Heap) (n : Nat) : Heap := { h with objs := h.objs ++ Array.replicate (n - h.objs.size) { cls := .none, data := .freed } }
theorem padTo_get {h : Heap} {n : Nat} {b : Addr} : (padTo h n).get? b = h.get? b := by
  unfold padTo Heap.get?
  rcases Nat.lt_or_ge b h.objs.size with lt | ge
  · rw [Array.getElem?_append_left lt]
  · rw [Array.getElem?_append_right ge, Array.getElem?_eq_none ge]
    rcases Nat.lt_or_ge (b - h.objs.size) (n - h.objs.size) with l2 | g2
    · rw [Array.getElem?_replicate, if_pos l2]
    · rw [Array.getElem?_replicate, if_neg (Nat.not_lt.mpr g2)]
theorem padTo_size {h : Heap} {n : Nat} (hn : h.objs.size ≤ n) : (padTo h n).objs.size = n := by
  unfold padTo
  simp only [Array.size_append, Array.size_replicate]
  omega
theorem padTo_ns {h : Heap} {n : Nat} {a : Addr} {m : Str → Option Value} (x : h.Ns a m) : (padTo h n).Ns a m := x.keeps fun b o e => padTo_get.trans e
theorem padTo_mod {K : PySem.W.Frag} {mg : Str → Option Value} {h : Heap} {n : Nat} (M : Mod K mg h) : Mod K mg (padTo h n) :=
  ⟨M.kin.keeps fun b o e => padTo_get.trans e, padTo_ns M.glob, M.blt.imp fun mb z => ⟨padTo_ns z.1, z.2⟩, M.nolimit.imp fun mc z => ⟨padTo_ns z.1, z.2⟩⟩
theorem padTo_frames {h base : Heap} {n : Nat} : ∀ {l : List Env}, h.FunFrames base l → h.FunFrames (padTo base n) l
  | [], _ => trivial
  | env :: rest, ⟨hk, ⟨L, o, hf, hn, ho, hd⟩, hr⟩ => ⟨hk, ⟨L, o, hf, padTo_get.trans hn, ho, hd⟩, padTo_frames hr⟩
section
variable {X : Cx} {pins : List (Addr × Obj)} {σ : L2.St} {H : Hp} {s : Shared}
theorem env_pad {A1 : Around} (hf : A1.frames = X.A.frames) (I : L2.Inv X pins σ H s) : Env0 X.prog X.w X.K X.mg (padTo X.base s.heap.objs.size) A1 X.stack s H := by
  have e := I.env0
  exact ⟨hf.trans e.frames, padTo_mod e.mod, fun b o z => e.bs b o (padTo_get.symm.trans z), by rw [padTo_size e.bsz]; exact Nat.le_refl _, padTo_frames e.funs, e.frf, e.hok, e.bare⟩
end
/-! ### iter(d) -/
def KiO (d : Addr) (od : Obj) (it : Addr) : HO := .ext fun h => ∃ es ep, od.data = .dict es ep ∧ h.IsKeyIter it d 0 es.size ep
def rIterD (n : Nat) : List V → Hp → VK → Prop := fun xs H Q => ∃ (d : Addr) (od : Obj) (kvs : List (Key × V)), xs = [.ref d] ∧ H d = some (.frz od (.dK kvs)) ∧ ∀ it, H it = none → n ≤ it → Q (.ref it) (upd H it (KiO d od it))
theorem call_iterD {X : Cx} : CallR X (.builtin "iter") (rIterD X.base.objs.size) := by
  intro pins s σ H xs us Q I r ⟨d, od, kvs, ex, hd, q⟩
  subst ex
  obtain rfl := Vals.ref1 r
  obtain ⟨hs, hgd, hx, es, ep, vs, hdt, hsz, kv, hm⟩ := I.frzK hd
  refine Calls.call_function_entry (by decide +kernel) (by decide +kernel) PySem.W.kdk_entry_iter (PySem.W.kdk_args_iter _) ?_
  unfold Builtin.«iter»
  refine wpAny_bind (m := someArgs "iter" 1 2 _) (wpAny_of_eq (a := [Value.ref d]) (by first | rfl | kernel_rfl!) ?_)
  show wpAny _ _ (pyIter (.ref d) >>= fun z => ret z) _ _ s
  refine wpAny_bind (iter_keys hs hgd hx hdt ?_)
  have hg : (s.heap.push { cls := .type "dict_keyiterator", data := .fields #[.ref d, .int 0 0, .int es.size 0, .int ep 0] }).get? s.heap.objs.size = some { cls := .type "dict_keyiterator", data := .fields #[.ref d, .int 0 0, .int es.size 0, .int ep 0] } := Heap.get?_push_size _ rfl
  refine wpAny_pure ⟨_, rfl, .ref s.heap.objs.size, upd H _ (KiO d od _), I.laid (t' := s.toks) (fun b u e => Heap.get?_push_of_some _ e) (Nat.le_refl _) ?_, rfl, q _ (I.hok.fresh (Nat.le_refl _)) (Nat.le_trans I.ok.bsz I.sz)⟩
  exact ⟨⟨es, ep, hdt, ⟨_, hg, rfl, rfl⟩⟩, ⟨_, hg⟩, fun h1 h2 ⟨es, ep, e, o, e1, r⟩ k => ⟨es, ep, e, o, k _ e1, r⟩⟩
/-- what __iter__ of the own class tells: an iterator over a dict's keys -/
def ItTold (R : It → Hp → Prop) (m : Nat) : VK := fun v H2 => ∃ it d od kvs, v = V.ref it ∧ H2 it = some (KiO d od it) ∧ H2 d = some (.frz od (.dK kvs)) ∧ m ≤ it ∧ R (Itk d od kvs) (ItX.dropH H2 it)
def iOwn (C : Addr) (sp : Nat → Sp) (E : XK) (te : TE) : TI := fun σ H R => te σ H fun x H1 => ∃ a dx fs, x = V.ref a ∧ H1 a = some (.ins C dx fs) ∧ ∀ m, sp m [x] H1 (ItTold R m) E
section
variable {X : Cx} {CX : CXT} {C f : Addr} {fd : FuncData} {ps : List Str} {n : Nat} {sp : Nat → Sp} {E : XK}
theorem own_it (F : ∀ base, FnOk X.prog X.w X.K X.mg base CX n f fd ps (sp base.objs.size)) (hb : L2.Binds X.K fd ps []) (hx : Passes CX X E) {A : Around} (hr : Room n A) (hfr : A.frames = X.A.frames)
    (hs : PySem.W.findIn X.K (.ref C) "__iter__" = some (some (.ref f))) (hf : PySem.W.isFn X.K (.ref f) = true)
    {pins : List (Addr × Obj)} {s : Shared} {σ : L2.St} {H : Hp} {a dx : Addr} {fs : List (Str × V)} {T : Nat → VK} (hT : ∀ m v H2, T m v H2 → ∃ it d od, v = V.ref it ∧ H2 it = some (KiO d od it)) (I : L2.Inv X pins σ H s) (ha : H a = some (.ins C dx fs)) (hsp : ∀ m, sp m [.ref a] H (T m) E) :
    wpAny (model X.prog X.w) A (pyIter (.ref a)) (fun u s' => ∃ it H2, u = .ref it ∧ L2.Inv X pins σ H2 s' ∧ T s.heap.objs.size (.ref it) H2) X.xe s := by
  obtain ⟨mA, J, _⟩ := ins_get I.hok ha
  obtain ⟨od0, J, _⟩ := J.look
  obtain ⟨m, hF⟩ := I.fr
  refine PySem.W.owit_iter hF I.ok.mod.kin J hs hf ?_
  have e0 := env_pad hfr I
  have hsp := hsp (padTo X.base s.heap.objs.size).objs.size
  have F := F (padTo X.base s.heap.objs.size)
  have hl := F.len _ _ _ _ hsp
  have r2 : L2.Vals [V.ref a] [Value.ref a] := .cons rfl .nil
  refine wpAny_call (codeAny_mono (F.run A X.stack s H ⟨[.ref a], []⟩ [.ref a] [.ref a] _ E hr e0 (by
    have := hb s [.ref a] I.kIn (by simpa using hl)
    simpa using this) r2 hsp) fun r s' hq => ?_)
  rw [padTo_size (Nat.le_trans I.ok.bsz I.sz)] at hq
  cases r with
  | error e => exact hx pins σ H s e s' I hq
  | ok fl =>
    cases fl with
    | ret u =>
      obtain ⟨v, H2, I2, rv, ht⟩ := I.after hq
      obtain ⟨it, d, od, ev, h1⟩ := hT _ _ _ ht
      subst ev
      cases (show u = Value.ref it from rv)
      have hk : ∃ es ep, od.data = .dict es ep ∧ s'.heap.IsKeyIter it d 0 es.size ep := (show ObjOk X.prog X.w H2 s'.heap it (KiO d od it) from I2.hok it _ h1).1
      obtain ⟨es, ep, _, hk⟩ := hk
      show PySem.W.OwitIt _ _ _ _ _ _
      unfold PySem.W.OwitIt
      refine wpAny_specialOf hk.typeIs PySem.F.slot_dict_keyiterator_next.lookup ?_
      exact ⟨it, H2, rfl, I2, ht⟩
    | next => exact False.elim hq
    | brk => exact False.elim hq
    | cont => exact False.elim hq
theorem pi_own {tg e : Expr} {te : TE} (F : ∀ base, FnOk X.prog X.w X.K X.mg base CX n f fd ps (sp base.objs.size)) (hb : L2.Binds X.K fd ps []) (hx : Passes CX X E) (hr : Room n X.A)
    (hs : PySem.W.findIn X.K (.ref C) "__iter__" = some (some (.ref f))) (hf : PySem.W.isFn X.K (.ref f) = true) (he : PE X e te) : PI X tg e (iOwn C sp E te) := by
  refine ⟨fun pins s σ H R I h => ?_⟩
  refine thn (he.run pins s σ H _ I h) fun v s1 ⟨x, H1, I1, r1, a, dx, fs, ex, ha, hsp⟩ => ?_
  subst ex
  cases (show v = Value.ref a from r1)
  refine wpAny_mono (own_it F hb hx hr rfl hs hf (fun m v H2 ⟨it, d, od, kvs, e1, e2, _⟩ => ⟨it, d, od, e1, e2⟩) I1 ha hsp) (fun u s2 h2 => ?_) fun _ _ z => z
  obtain ⟨it0, H2, eu, I2, it, d, od, kvs, e0, hi, hd, hz, hR⟩ := h2
  have e9 : it = it0 := by cases e0; rfl
  subst e9
  have hz := Nat.le_trans I1.sz hz
  obtain ⟨es, ep, hod, hk⟩ := (show ObjOk X.prog X.w H2 s2.heap it (KiO d od it) from I2.hok it _ hi).1
  obtain ⟨_, _, _, es2, ep2, vs, hdt, hsz, kv, hm⟩ := I2.frzK hd
  obtain ⟨e1, e2⟩ := dict_ep hod hdt
  subst e1
  rw [hsz] at hk
  refine ⟨it, [it], _, _, _, eu, ItX.inv_drop I2 hi, turn_keys it hod, hk, fun b hb => ?_, hR⟩
  rw [List.mem_singleton.mp hb]
  exact ItX.inv_fp I2 hi hz
/-- the keys fill a list -/
theorem key_loop {pins : List (Addr × Obj)} {σ : L2.St} {A : Around} {Rs : Result → Shared → Prop} {S d it : Addr} {od : Obj} {kvs : List (Key × V)} {ep : Nat} {es : Array DictEntry} (hh : A.handled = none) (hod : od.data = .dict es ep) (hz : kvs.length ≤ sizeLine) (hS : S ≠ it) (hSd : S ≠ d)
    : ∀ (k i : Nat) (H : Hp) (s : Shared), kvs.length - i = k → i ≤ kvs.length → L2.Inv X pins σ H s → FpOk X pins H it → H d = some (.frz od (.dK kvs)) → H S = some (.lst ((kvs.take i).map fun p => kV p.1)) → s.heap.IsKeyIter it d i kvs.length ep →
      (∀ s', L2.Inv X pins σ (upd H S (.lst (kvs.map fun p => kV p.1))) s' → Rs (.ok (.ret .none)) s') →
      codeAny (model X.prog X.w) A (.builtin "list.extend.loop" ⟨[.ref S, .ref it, .none], []⟩) Rs s := by
  intro k
  induction k with
  | zero =>
    intro i H s hk hi I fp hd hl st hR
    have e : i = kvs.length := by omega
    subst e
    obtain ⟨f0, f1, f2, f3, f4, f5⟩ := fp
    obtain ⟨_, hgd, _, es2, ep2, vs, hdt, hsz, kv, hm⟩ := I.frzK hd
    obtain ⟨e1, e2⟩ := dict_ep hod hdt
    subst e1
    subst e2
    refine codeAny_builtin PySem.F.entry_extend_loop ?_
    rw [Around.under_plainId PySem.F.plain_extend_loop _]
    show wpAny _ A.in1 (pyNext (.ref it) >>= _) _ _ s
    refine wpAny_bind (next_key_end hh st hgd hdt hsz (Nat.le_refl _) fun h' eb => ?_)
    have I1 := I.turned (t' := s.toks) (fun b o hb e => eb b o hb e) f0 f1 f3 f4 f5
    rw [List.take_length] at hl
    refine wpAny_pure (hR _ ?_)
    rw [show upd H S (.lst (kvs.map fun p => kV p.1)) = H from by
      funext b
      by_cases hb : b = S
      · rw [hb, upd_same, hl]
      · rw [upd_ne hb]]
    exact I1
  | succ k ih =>
    intro i H s hk hi I fp hd hl st hR
    have hlt : i < kvs.length := by omega
    obtain ⟨f0, f1, f2, f3, f4, f5⟩ := fp
    obtain ⟨_, hgd, _, es2, ep2, vs, hdt, hsz, kv, hm⟩ := I.frzK hd
    obtain ⟨e1, e2⟩ := dict_ep hod hdt
    subst e1
    subst e2
    have hlv : kvs.length = vs.length := Paired.length kv
    obtain ⟨u, hu, ru⟩ := kv_get kv (show kvs[i]? = some (kvs[i].1, kvs[i].2) from List.getElem?_eq_getElem hlt)
    refine codeAny_builtin PySem.F.entry_extend_loop ?_
    rw [Around.under_plainId PySem.F.plain_extend_loop _]
    show wpAny _ A.in1 (pyNext (.ref it) >>= _) _ _ s
    rw [hlv] at st
    refine wpAny_bind (wpAny_pyNext_dict_item st hm hu fun key h' hkey st' sb => ?_)
    have I1 : L2.Inv X pins σ H { s with heap := h' } := I.turned (t' := s.toks) (fun b ob hb e => (sb.2 b hb).trans e) f0 f1 f3 f4 f5
    obtain ⟨z, its, cc, r2, hln, e⟩ := I1.lstM hl
    have lt2 : its.length = i := by rw [← hln, List.length_map, List.length_take]; omega
    show wpAny _ A.in1 (updateSeq S (·.push key) >>= _) _ _ _
    have et : (kvs.take (i + 1)).map (fun p => kV p.1) = (kvs.take i).map (fun p => kV p.1) ++ [kV kvs[i].1] := by rw [List.take_succ, List.getElem?_eq_getElem hlt, List.map_append]; rfl
    refine wpAny_bind (wpAny_updateSeq e rfl (wpAny_pure ⟨plainId_quiet PySem.F.plain_extend_loop _, ?_⟩) (by rw [List.size_toArray]; omega) (by show (its.toArray.push key).size ≤ sizeLine + 1; rw [Array.size_push, List.size_toArray]; omega))
    have I3 := I1.lset (f := (·.push key)) (its' := its ++ [key]) (t' := s.toks) hl e (by simp) (r2.append (.cons (relV_key (show keyIs kvs[i].1 key = true from hkey)) .nil)) (by rw [List.length_append, List.length_singleton, List.length_map, List.length_take]; omega)
    rw [← et] at I3
    have hit2 : (upd H S (.lst ((kvs.take (i + 1)).map fun p => kV p.1))) it = none := by rw [upd_ne hS.symm]; exact f0
    refine ih (i + 1) _ _ (by omega) hlt I3 ⟨hit2, f1, f2, f3, f4, f5⟩ (by rw [upd_ne hSd.symm]; exact hd) upd_same ?_ (fun s' J => hR s' (by rw [upd_upd] at J; exact J))
    show (h'.update S _).IsKeyIter it d (i + 1) kvs.length _
    rw [hlv]
    exact st'.at fun o e => (Heap.get?_update_other _ _ hS).trans e
end
end Own
set_option Elab.async false
set_option linter.all false
set_option maxRecDepth 100000
set_option maxHeartbeats 2000000
/-! list(o), o an instance whose own __iter__ returns iter(d) -/
namespace Own
open PySem PySem.Spec PyProof.Rows L2
/-- a class that tells no length -/
theorem hint_no {M : Model} {A : Around} {E : Value → Shared → Prop} {s : Shared} {Q : Bool → Shared → Prop} {K : PySem.W.Frag} {a C : Addr} {ox : Obj} {od : Option Obj} (n1 : PySem.W.findIn K (.ref C) "__len__" = some none) (n2 : PySem.W.findIn K (.ref C) "__length_hint__" = some none)
    (hK : K.In s.heap) (J : PySem.W.InstAt s.heap a ox C od) (q : Q true s) : wpAny M A (Builtin.List.listLengthHint (.ref a)) Q E s := by
  have l1 := PySem.W.looks_findIn (M := M) hK n1
  have l2 := PySem.W.looks_findIn (M := M) hK n2
  unfold Builtin.List.listLengthHint
  refine wpAny_bind (wpAny_bind (J.type.here (l1.here ?_)))
  refine PySem.W.KFB.if_not (by rfl) (PySem.W.KFB.if_not (by rfl) ?_)
  exact wpAny_bind (wpAny_bind (J.type.here (l2.here (wpAny_pure q))))
def ListTold (C a S : Addr) (Q : VK) (m : Nat) : VK := fun v H2 => ∃ it d od kvs, v = V.ref it ∧ H2 it = some (KiO d od it) ∧ H2 d = some (.frz od (.dK kvs)) ∧ H2 S = some (.lst []) ∧ m ≤ it ∧ (∃ dx fs, H2 a = some (.ins C dx fs)) ∧ Q (.ref S) (upd (ItX.dropH H2 it) S (.lst (kvs.map fun p => kV p.1)))
def rListIt (C : Addr) (sp : Nat → Sp) (E : XK) : List V → Hp → VK → Prop := fun xs H Q => ∃ a dx fs, xs = [V.ref a] ∧ H a = some (.ins C dx fs) ∧ ∀ S, H S = none → ∀ m, sp m [.ref a] (upd H S (.lst [])) (ListTold C a S Q m) E
section
variable {X : Cx} {CX : CXT} {C f : Addr} {fd : FuncData} {ps : List Str} {n : Nat} {sp : Nat → Sp} {E : XK}
theorem list_fill {pins : List (Addr × Obj)} {σ : L2.St} {A : Around} {Rs : Result → Shared → Prop} {S a dx : Addr} {fs : List (Str × V)} {H : Hp} {s : Shared} {Q : VK}
    (F : ∀ base, FnOk X.prog X.w X.K X.mg base CX n f fd ps (sp base.objs.size)) (hb : L2.Binds X.K fd ps []) (hx : Passes CX X E) (hr : Room n A.in1) (hfr : A.in1.frames = X.A.frames) (hh : A.handled = none)
    (hs : PySem.W.findIn X.K (.ref C) "__iter__" = some (some (.ref f))) (hf : PySem.W.isFn X.K (.ref f) = true) (n1 : PySem.W.findIn X.K (.ref C) "__len__" = some none) (n2 : PySem.W.findIn X.K (.ref C) "__length_hint__" = some none)
    (I : L2.Inv X pins σ H s) (ha : H a = some (.ins C dx fs)) (hS : H S = some (.lst [])) (hsp : ∀ m, sp m [.ref a] H (ListTold C a S Q m) E)
    (done : ∀ H' s', L2.Inv X pins σ H' s' → Q (.ref S) H' → Rs (.ok (.ret .none)) s') (bad : ∀ e s', X.xe e s' → Rs (.error e) s') :
    wpAny (model X.prog X.w) A.in1 (Builtin.List.listExtendWith (.ref S) (.ref a) .none)
      (fun fin s' => match fin with | .done g => Rs (.ok g) s' | .again c' => c'.quiet = true ∧ codeAny (model X.prog X.w) A c' Rs s') (fun e s' => Rs (.error e) s') s := by
  have neS : S ≠ a := ne_of hS ha (fun z => nomatch z)
  obtain ⟨mA, J, _⟩ := ins_get I.hok ha
  obtain ⟨od0, J, _⟩ := J.look
  have t1 : Builtin.List.listSameRef (.ref S) (.ref a) = false := by simp [Builtin.List.listSameRef, neS]
  have t2 : (Value.ref C == Value.type "list" || Value.ref C == Value.type "tuple") = false := rfl
  unfold Builtin.List.listExtendWith
  refine wpAny_bind (J.type.here ?_)
  rw [t1, Bool.false_or]
  simp only [t2, Bool.false_eq_true, if_false]
  refine wpAny_bind (wpAny_mono (own_it F hb hx hr hfr hs hf (fun m v H2 ⟨it, d, od, kvs, e1, e2, _⟩ => ⟨it, d, od, e1, e2⟩) I ha hsp) (fun u s2 h2 => ?_) bad)
  obtain ⟨it0, H2, eu, I2, it, d, od, kvs, e0, hi, hd, hS2, hz, ⟨dx2, fs2, ha2⟩, hQ⟩ := h2
  subst eu
  have e9 : it = it0 := by cases e0; rfl
  subst e9
  obtain ⟨mB, J2, _⟩ := ins_get I2.hok ha2
  obtain ⟨od2, J2, _⟩ := J2.look
  refine wpAny_bind (wpAny_holding (hint_no n1 n2 I2.kIn J2 ?_))
  obtain ⟨es, ep, hod, hk⟩ := (show ObjOk X.prog X.w H2 s2.heap it (KiO d od it) from I2.hok it _ hi).1
  obtain ⟨_, _, _, es2, ep2, vs, hdt, hsz, kv, hm⟩ := I2.frzK hd
  obtain ⟨e1, e2⟩ := dict_ep hod hdt
  subst e1
  have nSi : S ≠ it := fun e => by rw [e, hi] at hS2; cases hS2
  have nSd : S ≠ d := fun e => by rw [e, hd] at hS2; cases hS2
  have ndi : d ≠ it := fun e => by rw [e, hi] at hd; cases hd
  have hzk : kvs.length ≤ sizeLine := (dk_rd I2.hok (.inr ⟨od, hd⟩)).1
  have I3 := ItX.inv_drop I2 hi
  have fp := ItX.inv_fp I2 hi (Nat.le_trans I.sz hz)
  have hS3 : ItX.dropH H2 it S = some (.lst []) := (ItX.dropH_ne nSi).trans hS2
  have hd3 : ItX.dropH H2 it d = some (.frz od (.dK kvs)) := (ItX.dropH_ne ndi).trans hd
  generalize ItX.dropH H2 it = H3 at I3 fp hS3 hd3 hQ
  have go : ∀ (s' : Shared), L2.Inv X pins σ H3 s' → s'.heap.IsKeyIter it d 0 kvs.length ep → codeAny (model X.prog X.w) A (.builtin "list.extend.loop" ⟨[.ref S, .ref it, .none], []⟩) Rs s' := fun s' I' st' =>
    key_loop hh hod hzk nSi nSd _ 0 H3 s' rfl (Nat.zero_le _) I' fp hd3 hS3 st' fun s'' I'' => done _ s'' I'' hQ
  rw [hsz] at hk
  obtain ⟨zz, its, cc, r3, ln3, e3⟩ := I3.lstM hS3
  cases r3
  refine wpAny_ite_split (fun _ => ?_) (fun _ => wpAny_pure ⟨plainId_quiet PySem.F.plain_extend_loop _, go s2 I3 hk⟩)
  refine wpAny_bind (wpAny_rule (wpAny_bind ?_))
  show wpAny _ _ (updateSeq S (·.push .none) >>= fun _ => updateSeq S (·.pop)) _ _ _
  refine wpAny_bind (wpAny_updateSeq e3 rfl ?_)
  have J1 := I3.lset (f := (·.push Value.none)) (its' := [Value.none]) (ys := [V.non]) (t' := s2.toks) hS3 e3 (by simp) (.cons rfl .nil) (by rw [List.length_singleton, sizeLine_eq]; decide)
  obtain ⟨z4, its4, c4, r4, ln4, e4⟩ := J1.lstM upd_same
  obtain ⟨u4, rfl, ru4⟩ := r4.one
  refine wpAny_updateSeq e4 rfl (wpAny_pure ⟨plainId_quiet PySem.F.plain_extend_loop _, go _ ?_ ?_⟩) (by show 1 ≤ sizeLine; rw [sizeLine_eq]; decide) (by show 0 ≤ sizeLine + 1; exact Nat.zero_le _)
  · have J2 := J1.lset (f := (·.pop)) (its := [u4]) (its' := []) (ys := []) (t' := s2.toks) upd_same e4 (by rfl) .nil (Nat.zero_le _)
    rw [upd_upd, show upd H3 S (.lst []) = H3 from by
      funext b
      by_cases hb : b = S
      · rw [hb, upd_same, hS3]
      · rw [upd_ne hb]] at J2
    exact J2
  · exact hk.at fun o e => (Heap.get?_update_other _ _ nSi).trans ((Heap.get?_update_other _ _ nSi).trans e)
theorem call_listIt (F : ∀ base, FnOk X.prog X.w X.K X.mg base CX n f fd ps (sp base.objs.size)) (hb : L2.Binds X.K fd ps []) (hx : Passes CX X E) (hc : X.calm = true) (hr : Room (n + 2) X.A)
    (hs : PySem.W.findIn X.K (.ref C) "__iter__" = some (some (.ref f))) (hf : PySem.W.isFn X.K (.ref f) = true) (n1 : PySem.W.findIn X.K (.ref C) "__len__" = some none) (n2 : PySem.W.findIn X.K (.ref C) "__length_hint__" = some none) :
    CallR X (.type "list") (rListIt C sp E) := by
  intro pins s σ H xs us Q I rv ⟨a, dx, fs, ex, ha, hq⟩
  subst ex
  obtain rfl := Vals.ref1 rv
  refine callType_codes (Q₁ := fun ob s1 => ob = .ref s.heap.objs.size ∧ s1 = { s with heap := s.heap.push { cls := .type "list", data := .seq #[] } }) PySem.F.called_list (PySem.F.typeCall_list_1 _) PySem.F.entry_list_init
    (code_list_new _ ⟨rfl, rfl⟩) fun ob s1 h1 => ?_
  obtain ⟨z1, z2⟩ := h1
  subst z1
  subst z2
  have hS : (s.heap.push { cls := .type "list", data := .seq #[] }).get? s.heap.objs.size = some { cls := .type "list", data := .seq #[] } := Heap.get?_push_size _ rfl
  have fr : H s.heap.objs.size = none := I.hok.fresh (Nat.le_refl _)
  refine ⟨⟨_, hS, rfl⟩, PySem.F.args_list_init_2 _ _, ?_⟩
  have I1 : L2.Inv X pins σ (upd H s.heap.objs.size (.lst [])) { s with heap := s.heap.push { cls := .type "list", data := .seq #[] } } := I.lnew (its := []) (t' := s.toks) .nil (Nat.zero_le _)
  show wpAny _ _ (Builtin.List.listItems (.ref s.heap.objs.size) >>= fun old => Builtin.List.listUpdate (.ref s.heap.objs.size) (fun _ => #[]) >>= fun _ => letGo old.toList.reverse >>= fun _ => Builtin.List.listExtendWith (.ref s.heap.objs.size) (.ref a) .none) _ _ _
  refine wpAny_bind ?_
  unfold Builtin.List.listItems
  refine wpAny_bind (wpAny_seqItems hS rfl (wpAny_pure ?_))
  refine wpAny_bind ?_
  show wpAny _ _ (updateSeq s.heap.objs.size (fun _ => #[])) _ _ _
  refine wpAny_updateSeq hS rfl (wpAny_bind (wpAny_letGo ?_))
  have I2 := I1.lset (f := fun _ => #[]) (its := []) (its' := []) (ys := []) (t' := s.toks) upd_same hS rfl .nil (Nat.zero_le _)
  rw [upd_upd] at I2
  exact list_fill (A := X.A.in1) (Rs := wants (fun r s2 => r = .none ∧ EP X pins σ Q (.ref s.heap.objs.size) s2) X.xe) F hb hx (Room.in1 (Room.in1 hr)) rfl (I.ok.hd hc) hs hf n1 n2 I2 (by rw [upd_ne (ne_of_none ha fr)]; exact ha) upd_same (hq _ fr)
    (fun H' s' I' q => ⟨rfl, .ref _, H', I', rfl, q⟩) fun e s' he => he
end
end Own
set_option Elab.async false
set_option linter.all false
set_option maxRecDepth 100000
set_option maxHeartbeats 4000000
namespace K5
open PySem L2
def top (i : Nat) : Stmt := PySem.Challenge.pw_cookcalls_k06_hangings_told.main.body.getD i (.Pass ⟨0, 0, 0, 0⟩)
abbrev s_is_name : Stmt := top 4
abbrev N_is_name : List Str := ["thing", "sign"]
abbrev P_is_name : List Str := ["thing"]
theorem sc_is_name : FnScope N_is_name P_is_name (defScope s_is_name) := ⟨rfl, rfl, rfl, by decide +kernel, rfl, by decide +kernel, by decide +kernel⟩
abbrev s_is_dish : Stmt := top 5
abbrev N_is_dish : List Str := ["thing", "dishes"]
abbrev P_is_dish : List Str := ["thing", "dishes"]
theorem sc_is_dish : FnScope N_is_dish P_is_dish (defScope s_is_dish) := ⟨rfl, rfl, rfl, by decide +kernel, rfl, by decide +kernel, by decide +kernel⟩
abbrev s_alike : Stmt := top 6
abbrev N_alike : List Str := ["one", "other", "mine", "yours"]
abbrev P_alike : List Str := ["one", "other"]
theorem sc_alike : FnScope N_alike P_alike (defScope s_alike) := ⟨rfl, rfl, rfl, by decide +kernel, rfl, by decide +kernel, by decide +kernel⟩
abbrev s_copied : Stmt := top 7
abbrev N_copied : List Str := ["thing", "part", "key"]
abbrev P_copied : List Str := ["thing"]
theorem sc_copied : FnScope N_copied P_copied (defScope s_copied) := ⟨rfl, rfl, rfl, by decide +kernel, rfl, by decide +kernel, by decide +kernel⟩
abbrev s_NoDish___init__ : Stmt := inClass (top 10) 0
abbrev N_NoDish___init__ : List Str := ["self", "name"]
abbrev P_NoDish___init__ : List Str := ["self", "name"]
theorem sc_NoDish___init__ : FnScope N_NoDish___init__ P_NoDish___init__ (defScope s_NoDish___init__) := ⟨rfl, rfl, rfl, by decide +kernel, rfl, by decide +kernel, by decide +kernel⟩
abbrev s_check_dish : Stmt := top 14
abbrev N_check_dish : List Str := ["name", "dishes"]
abbrev P_check_dish : List Str := ["name", "dishes"]
theorem sc_check_dish : FnScope N_check_dish P_check_dish (defScope s_check_dish) := ⟨rfl, rfl, rfl, by decide +kernel, rfl, by decide +kernel, by decide +kernel⟩
abbrev s_way_up : Stmt := top 16
abbrev N_way_up : List Str := ["name", "hooks", "names", "hook"]
abbrev P_way_up : List Str := ["name", "hooks"]
theorem sc_way_up : FnScope N_way_up P_way_up (defScope s_way_up) := ⟨rfl, rfl, rfl, by decide +kernel, rfl, by decide +kernel, by decide +kernel⟩
abbrev s_Hanging___init__ : Stmt := inClass (top 18) 0
abbrev N_Hanging___init__ : List Str := ["self", "rows", "name"]
abbrev P_Hanging___init__ : List Str := ["self", "rows"]
theorem sc_Hanging___init__ : FnScope N_Hanging___init__ P_Hanging___init__ (defScope s_Hanging___init__) := ⟨rfl, rfl, rfl, by decide +kernel, rfl, by decide +kernel, by decide +kernel⟩
abbrev s_Hanging_rows : Stmt := inClass (top 18) 1
abbrev N_Hanging_rows : List Str := ["self"]
abbrev P_Hanging_rows : List Str := ["self"]
theorem sc_Hanging_rows : FnScope N_Hanging_rows P_Hanging_rows (defScope s_Hanging_rows) := ⟨rfl, rfl, rfl, by decide +kernel, rfl, by decide +kernel, by decide +kernel⟩
abbrev s_Hanging_dishes : Stmt := inClass (top 18) 2
abbrev N_Hanging_dishes : List Str := ["self"]
abbrev P_Hanging_dishes : List Str := ["self"]
theorem sc_Hanging_dishes : FnScope N_Hanging_dishes P_Hanging_dishes (defScope s_Hanging_dishes) := ⟨rfl, rfl, rfl, by decide +kernel, rfl, by decide +kernel, by decide +kernel⟩
abbrev s_Hanging_way : Stmt := inClass (top 18) 3
abbrev N_Hanging_way : List Str := ["self", "name"]
abbrev P_Hanging_way : List Str := ["self", "name"]
theorem sc_Hanging_way : FnScope N_Hanging_way P_Hanging_way (defScope s_Hanging_way) := ⟨rfl, rfl, rfl, by decide +kernel, rfl, by decide +kernel, by decide +kernel⟩
abbrev s_Hanging_looks : Stmt := inClass (top 18) 4
abbrev N_Hanging_looks : List Str := ["self", "hooks", "name"]
abbrev P_Hanging_looks : List Str := ["self"]
theorem sc_Hanging_looks : FnScope N_Hanging_looks P_Hanging_looks (defScope s_Hanging_looks) := ⟨rfl, rfl, rfl, by decide +kernel, rfl, by decide +kernel, by decide +kernel⟩
abbrev s_Hanging___iter__ : Stmt := inClass (top 18) 5
abbrev N_Hanging___iter__ : List Str := ["self"]
abbrev P_Hanging___iter__ : List Str := ["self"]
theorem sc_Hanging___iter__ : FnScope N_Hanging___iter__ P_Hanging___iter__ (defScope s_Hanging___iter__) := ⟨rfl, rfl, rfl, by decide +kernel, rfl, by decide +kernel, by decide +kernel⟩
abbrev s_Hanging___eq__ : Stmt := inClass (top 18) 6
abbrev N_Hanging___eq__ : List Str := ["self", "other"]
abbrev P_Hanging___eq__ : List Str := ["self", "other"]
theorem sc_Hanging___eq__ : FnScope N_Hanging___eq__ P_Hanging___eq__ (defScope s_Hanging___eq__) := ⟨rfl, rfl, rfl, by decide +kernel, rfl, by decide +kernel, by decide +kernel⟩
abbrev s_check_rows : Stmt := top 19
abbrev N_check_rows : List Str := ["rows", "name"]
abbrev P_check_rows : List Str := ["rows"]
theorem sc_check_rows : FnScope N_check_rows P_check_rows (defScope s_check_rows) := ⟨rfl, rfl, rfl, by decide +kernel, rfl, by decide +kernel, by decide +kernel⟩
abbrev s_is_hook : Stmt := top 20
abbrev N_is_hook : List Str := ["thing", "rows", "key"]
abbrev P_is_hook : List Str := ["thing", "rows"]
theorem sc_is_hook : FnScope N_is_hook P_is_hook (defScope s_is_hook) := ⟨rfl, rfl, rfl, by decide +kernel, rfl, by decide +kernel, by decide +kernel⟩
abbrev s_check_rounds : Stmt := top 21
abbrev N_check_rounds : List Str := ["hooks", "name", "names"]
abbrev P_check_rounds : List Str := ["hooks"]
theorem sc_check_rounds : FnScope N_check_rounds P_check_rounds (defScope s_check_rounds) := ⟨rfl, rfl, rfl, by decide +kernel, rfl, by decide +kernel, by decide +kernel⟩
abbrev s_round_from : Stmt := top 22
abbrev N_round_from : List Str := ["name", "hooks", "names", "hook"]
abbrev P_round_from : List Str := ["name", "hooks"]
theorem sc_round_from : FnScope N_round_from P_round_from (defScope s_round_from) := ⟨rfl, rfl, rfl, by decide +kernel, rfl, by decide +kernel, by decide +kernel⟩
abbrev s__law_fresh : Stmt := top 24
abbrev N__law_fresh : List Str := ["_law_script"]
abbrev P__law_fresh : List Str := ["_law_script"]
theorem sc__law_fresh : FnScope N__law_fresh P__law_fresh (defScope s__law_fresh) := ⟨rfl, rfl, rfl, by decide +kernel, rfl, by decide +kernel, by decide +kernel⟩
abbrev s__law_take : Stmt := top 25
abbrev N__law_take : List Str := ["_law_state", "_law_many", "_law_cell", "_law_digit", "_law_mixed"]
abbrev P__law_take : List Str := ["_law_state", "_law_many"]
theorem sc__law_take : FnScope N__law_take P__law_take (defScope s__law_take) := ⟨rfl, rfl, rfl, by decide +kernel, rfl, by decide +kernel, by decide +kernel⟩
abbrev s__law_one : Stmt := top 26
abbrev N__law_one : List Str := ["_law_state", "_law_things"]
abbrev P__law_one : List Str := ["_law_state", "_law_things"]
theorem sc__law_one : FnScope N__law_one P__law_one (defScope s__law_one) := ⟨rfl, rfl, rfl, by decide +kernel, rfl, by decide +kernel, by decide +kernel⟩
abbrev s__law_mix : Stmt := top 27
abbrev N__law_mix : List Str := ["_law_state", "_law_things", "_law_left", "_law_found"]
abbrev P__law_mix : List Str := ["_law_state", "_law_things"]
theorem sc__law_mix : FnScope N__law_mix P__law_mix (defScope s__law_mix) := ⟨rfl, rfl, rfl, by decide +kernel, rfl, by decide +kernel, by decide +kernel⟩
abbrev s__law_same : Stmt := top 28
abbrev N__law_same : List Str := ["_law_found", "_law_due", "_law_x", "_law_y"]
abbrev P__law_same : List Str := ["_law_found", "_law_due"]
theorem sc__law_same : FnScope N__law_same P__law_same (defScope s__law_same) := ⟨rfl, rfl, rfl, by decide +kernel, rfl, by decide +kernel, by decide +kernel⟩
abbrev s__law_same_dict : Stmt := top 29
abbrev N__law_same_dict : List Str := ["_law_found", "_law_due", "_law_key"]
abbrev P__law_same_dict : List Str := ["_law_found", "_law_due"]
theorem sc__law_same_dict : FnScope N__law_same_dict P__law_same_dict (defScope s__law_same_dict) := ⟨rfl, rfl, rfl, by decide +kernel, rfl, by decide +kernel, by decide +kernel⟩
abbrev s__law_names : Stmt := top 30
abbrev N__law_names : List Str := ["_law_state", "_law_many", "_law_some"]
abbrev P__law_names : List Str := ["_law_state", "_law_many"]
theorem sc__law_names : FnScope N__law_names P__law_names (defScope s__law_names) := ⟨rfl, rfl, rfl, by decide +kernel, rfl, by decide +kernel, by decide +kernel⟩
abbrev s__law_rising : Stmt := top 31
abbrev N__law_rising : List Str := ["_law_things", "_law_found", "_law_thing", "_law_x"]
abbrev P__law_rising : List Str := ["_law_things"]
theorem sc__law_rising : FnScope N__law_rising P__law_rising (defScope s__law_rising) := ⟨rfl, rfl, rfl, by decide +kernel, rfl, by decide +kernel, by decide +kernel⟩
abbrev s__law_hung : Stmt := top 32
abbrev N__law_hung : List Str := ["_law_state", "_law_names_here", "_law_row", "_law_found", "_law_k", "_law_name"]
abbrev P__law_hung : List Str := ["_law_state", "_law_names_here"]
theorem sc__law_hung : FnScope N__law_hung P__law_hung (defScope s__law_hung) := ⟨rfl, rfl, rfl, by decide +kernel, rfl, by decide +kernel, by decide +kernel⟩
abbrev s__law_with : Stmt := top 33
abbrev N__law_with : List Str := ["_law_things", "_law_name", "_law_thing", "_law_found"]
abbrev P__law_with : List Str := ["_law_things", "_law_name", "_law_thing"]
theorem sc__law_with : FnScope N__law_with P__law_with (defScope s__law_with) := ⟨rfl, rfl, rfl, by decide +kernel, rfl, by decide +kernel, by decide +kernel⟩
abbrev s__law_way : Stmt := top 34
abbrev N__law_way : List Str := ["_law_rows", "_law_name", "_law_found", "_law_here"]
abbrev P__law_way : List Str := ["_law_rows", "_law_name"]
theorem sc__law_way : FnScope N__law_way P__law_way (defScope s__law_way) := ⟨rfl, rfl, rfl, by decide +kernel, rfl, by decide +kernel, by decide +kernel⟩
abbrev s__law_tried : Stmt := top 35
abbrev N__law_tried : List Str := ["_law_ask", "_law_found", "e"]
abbrev P__law_tried : List Str := ["_law_ask"]
theorem sc__law_tried : FnScope N__law_tried P__law_tried (defScope s__law_tried) := ⟨rfl, rfl, rfl, by decide +kernel, rfl, by decide +kernel, by decide +kernel⟩
abbrev s_law : Stmt := top 36
abbrev N_law : List Str := ["_law_script", "_law_state", "_law_turn", "_law_names_here", "_law_rows", "_law_given", "_law_hanging", "_law_up", "_law_due", "_law_looks", "_law_again", "_law_told", "_law_name", "_law_way_here", "_law_odd", "_law_others", "_law_other"]
abbrev P_law : List Str := ["_law_script"]
theorem sc_law : FnScope N_law P_law (defScope s_law) := ⟨rfl, rfl, rfl, by decide +kernel, rfl, by decide +kernel, by decide +kernel⟩
structure Ad where
  a_is_name : Addr
  d_is_name : FuncData
  a_is_dish : Addr
  d_is_dish : FuncData
  a_alike : Addr
  d_alike : FuncData
  a_copied : Addr
  d_copied : FuncData
  a_NoDish___init__ : Addr
  d_NoDish___init__ : FuncData
  a_check_dish : Addr
  d_check_dish : FuncData
  a_way_up : Addr
  d_way_up : FuncData
  a_Hanging___init__ : Addr
  d_Hanging___init__ : FuncData
  a_Hanging_rows : Addr
  d_Hanging_rows : FuncData
  a_Hanging_dishes : Addr
  d_Hanging_dishes : FuncData
  a_Hanging_way : Addr
  d_Hanging_way : FuncData
  a_Hanging_looks : Addr
  d_Hanging_looks : FuncData
  a_Hanging___iter__ : Addr
  d_Hanging___iter__ : FuncData
  a_Hanging___eq__ : Addr
  d_Hanging___eq__ : FuncData
  a_check_rows : Addr
  d_check_rows : FuncData
  a_is_hook : Addr
  d_is_hook : FuncData
  a_check_rounds : Addr
  d_check_rounds : FuncData
  a_round_from : Addr
  d_round_from : FuncData
  a__law_fresh : Addr
  d__law_fresh : FuncData
  a__law_take : Addr
  d__law_take : FuncData
  a__law_one : Addr
  d__law_one : FuncData
  a__law_mix : Addr
  d__law_mix : FuncData
  a__law_same : Addr
  d__law_same : FuncData
  a__law_same_dict : Addr
  d__law_same_dict : FuncData
  a__law_names : Addr
  d__law_names : FuncData
  a__law_rising : Addr
  d__law_rising : FuncData
  a__law_hung : Addr
  d__law_hung : FuncData
  a__law_with : Addr
  d__law_with : FuncData
  a__law_way : Addr
  d__law_way : FuncData
  a__law_tried : Addr
  d__law_tried : FuncData
  a_law : Addr
  d_law : FuncData
  a_Hanging : Addr
  a_NoDish : Addr
structure Txt (K : PySem.W.Frag) (mg : Str → Option Value) (A : Ad) : Prop where
  f_is_name : Fun K "is_name" "is_name" s_is_name A.a_is_name A.d_is_name
  g_is_name : mg "is_name" = some (.ref A.a_is_name)
  b_is_name : Binds K A.d_is_name P_is_name []
  f_is_dish : Fun K "is_dish" "is_dish" s_is_dish A.a_is_dish A.d_is_dish
  g_is_dish : mg "is_dish" = some (.ref A.a_is_dish)
  b_is_dish : Binds K A.d_is_dish P_is_dish []
  f_alike : Fun K "alike" "alike" s_alike A.a_alike A.d_alike
  g_alike : mg "alike" = some (.ref A.a_alike)
  b_alike : Binds K A.d_alike P_alike []
  f_copied : Fun K "copied" "copied" s_copied A.a_copied A.d_copied
  g_copied : mg "copied" = some (.ref A.a_copied)
  b_copied : Binds K A.d_copied P_copied []
  f_NoDish___init__ : Fun K "__init__" "NoDish.__init__" s_NoDish___init__ A.a_NoDish___init__ A.d_NoDish___init__
  b_NoDish___init__ : Binds K A.d_NoDish___init__ P_NoDish___init__ []
  f_check_dish : Fun K "check_dish" "check_dish" s_check_dish A.a_check_dish A.d_check_dish
  g_check_dish : mg "check_dish" = some (.ref A.a_check_dish)
  b_check_dish : Binds K A.d_check_dish P_check_dish []
  f_way_up : Fun K "way_up" "way_up" s_way_up A.a_way_up A.d_way_up
  g_way_up : mg "way_up" = some (.ref A.a_way_up)
  b_way_up : Binds K A.d_way_up P_way_up []
  f_Hanging___init__ : Fun K "__init__" "Hanging.__init__" s_Hanging___init__ A.a_Hanging___init__ A.d_Hanging___init__
  b_Hanging___init__ : Binds K A.d_Hanging___init__ P_Hanging___init__ []
  f_Hanging_rows : Fun K "rows" "Hanging.rows" s_Hanging_rows A.a_Hanging_rows A.d_Hanging_rows
  b_Hanging_rows : Binds K A.d_Hanging_rows P_Hanging_rows []
  f_Hanging_dishes : Fun K "dishes" "Hanging.dishes" s_Hanging_dishes A.a_Hanging_dishes A.d_Hanging_dishes
  b_Hanging_dishes : Binds K A.d_Hanging_dishes P_Hanging_dishes []
  f_Hanging_way : Fun K "way" "Hanging.way" s_Hanging_way A.a_Hanging_way A.d_Hanging_way
  b_Hanging_way : Binds K A.d_Hanging_way P_Hanging_way []
  f_Hanging_looks : Fun K "looks" "Hanging.looks" s_Hanging_looks A.a_Hanging_looks A.d_Hanging_looks
  b_Hanging_looks : Binds K A.d_Hanging_looks P_Hanging_looks []
  f_Hanging___iter__ : Fun K "__iter__" "Hanging.__iter__" s_Hanging___iter__ A.a_Hanging___iter__ A.d_Hanging___iter__
  b_Hanging___iter__ : Binds K A.d_Hanging___iter__ P_Hanging___iter__ []
  f_Hanging___eq__ : Fun K "__eq__" "Hanging.__eq__" s_Hanging___eq__ A.a_Hanging___eq__ A.d_Hanging___eq__
  b_Hanging___eq__ : Binds K A.d_Hanging___eq__ P_Hanging___eq__ []
  f_check_rows : Fun K "check_rows" "check_rows" s_check_rows A.a_check_rows A.d_check_rows
  g_check_rows : mg "check_rows" = some (.ref A.a_check_rows)
  b_check_rows : Binds K A.d_check_rows P_check_rows []
  f_is_hook : Fun K "is_hook" "is_hook" s_is_hook A.a_is_hook A.d_is_hook
  g_is_hook : mg "is_hook" = some (.ref A.a_is_hook)
  b_is_hook : Binds K A.d_is_hook P_is_hook []
  f_check_rounds : Fun K "check_rounds" "check_rounds" s_check_rounds A.a_check_rounds A.d_check_rounds
  g_check_rounds : mg "check_rounds" = some (.ref A.a_check_rounds)
  b_check_rounds : Binds K A.d_check_rounds P_check_rounds []
  f_round_from : Fun K "round_from" "round_from" s_round_from A.a_round_from A.d_round_from
  g_round_from : mg "round_from" = some (.ref A.a_round_from)
  b_round_from : Binds K A.d_round_from P_round_from []
  f__law_fresh : Fun K "_law_fresh" "_law_fresh" s__law_fresh A.a__law_fresh A.d__law_fresh
  g__law_fresh : mg "_law_fresh" = some (.ref A.a__law_fresh)
  b__law_fresh : Binds K A.d__law_fresh P__law_fresh []
  f__law_take : Fun K "_law_take" "_law_take" s__law_take A.a__law_take A.d__law_take
  g__law_take : mg "_law_take" = some (.ref A.a__law_take)
  b__law_take : Binds K A.d__law_take P__law_take []
  f__law_one : Fun K "_law_one" "_law_one" s__law_one A.a__law_one A.d__law_one
  g__law_one : mg "_law_one" = some (.ref A.a__law_one)
  b__law_one : Binds K A.d__law_one P__law_one []
  f__law_mix : Fun K "_law_mix" "_law_mix" s__law_mix A.a__law_mix A.d__law_mix
  g__law_mix : mg "_law_mix" = some (.ref A.a__law_mix)
  b__law_mix : Binds K A.d__law_mix P__law_mix []
  f__law_same : Fun K "_law_same" "_law_same" s__law_same A.a__law_same A.d__law_same
  g__law_same : mg "_law_same" = some (.ref A.a__law_same)
  b__law_same : Binds K A.d__law_same P__law_same []
  f__law_same_dict : Fun K "_law_same_dict" "_law_same_dict" s__law_same_dict A.a__law_same_dict A.d__law_same_dict
  g__law_same_dict : mg "_law_same_dict" = some (.ref A.a__law_same_dict)
  b__law_same_dict : Binds K A.d__law_same_dict P__law_same_dict []
  f__law_names : Fun K "_law_names" "_law_names" s__law_names A.a__law_names A.d__law_names
  g__law_names : mg "_law_names" = some (.ref A.a__law_names)
  b__law_names : Binds K A.d__law_names P__law_names []
  f__law_rising : Fun K "_law_rising" "_law_rising" s__law_rising A.a__law_rising A.d__law_rising
  g__law_rising : mg "_law_rising" = some (.ref A.a__law_rising)
  b__law_rising : Binds K A.d__law_rising P__law_rising []
  f__law_hung : Fun K "_law_hung" "_law_hung" s__law_hung A.a__law_hung A.d__law_hung
  g__law_hung : mg "_law_hung" = some (.ref A.a__law_hung)
  b__law_hung : Binds K A.d__law_hung P__law_hung []
  f__law_with : Fun K "_law_with" "_law_with" s__law_with A.a__law_with A.d__law_with
  g__law_with : mg "_law_with" = some (.ref A.a__law_with)
  b__law_with : Binds K A.d__law_with P__law_with []
  f__law_way : Fun K "_law_way" "_law_way" s__law_way A.a__law_way A.d__law_way
  g__law_way : mg "_law_way" = some (.ref A.a__law_way)
  b__law_way : Binds K A.d__law_way P__law_way []
  f__law_tried : Fun K "_law_tried" "_law_tried" s__law_tried A.a__law_tried A.d__law_tried
  g__law_tried : mg "_law_tried" = some (.ref A.a__law_tried)
  b__law_tried : Binds K A.d__law_tried P__law_tried []
  f_law : Fun K "law" "law" s_law A.a_law A.d_law
  g_law : mg "law" = some (.ref A.a_law)
  b_law : Binds K A.d_law P_law []
  g_CLOCK : ∃ t, mg "CLOCK" = some (.str "clock" t)
  g_LETTERS : ∃ t, mg "LETTERS" = some (.str "abcdefghijklmnopqrstuvwxyz" t)
  g_LONGEST_NAME : ∃ t, mg "LONGEST_NAME" = some (.int 8 t)
  len : mg "len" = none
  abs : mg "abs" = none
  int : mg "int" = none
  list : mg "list" = none
  tuple : mg "tuple" = none
  bool : mg "bool" = none
  str : mg "str" = none
  dict : mg "dict" = none
  isinstance : mg "isinstance" = none
  all : mg "all" = none
  any : mg "any" = none
  zip : mg "zip" = none
  enumerate : mg "enumerate" = none
  range : mg "range" = none
  sorted : mg "sorted" = none
  iter : mg "iter" = none
  g_Hanging : mg "Hanging" = some (.ref A.a_Hanging)
  cl : Cls K A.a_Hanging
  nH : NoAttr K A.a_Hanging "hooks"
  mkH : Mk K A.a_Hanging A.a_Hanging___init__
  m_rows : Meth K A.a_Hanging "rows" A.a_Hanging_rows
  m_dishes : Meth K A.a_Hanging "dishes" A.a_Hanging_dishes
  m_way : Meth K A.a_Hanging "way" A.a_Hanging_way
  m_looks : Meth K A.a_Hanging "looks" A.a_Hanging_looks
  aC : PySem.W.findIn K (.ref A.a_Hanging) "__class__" = some (some (.builtin "object.__class__"))
  aG : PySem.W.specialIn K (.builtin "object.__class__") "__get__" = some (some (.builtin "getset_descriptor.__get__"))
  aT : PySem.W.takesIn K (.builtin "object.__class__") = some true
  m_iter : PySem.W.findIn K (.ref A.a_Hanging) "__iter__" = some (some (.ref A.a_Hanging___iter__)) ∧ PySem.W.isFn K (.ref A.a_Hanging___iter__) = true
  nLen : PySem.W.findIn K (.ref A.a_Hanging) "__len__" = some none
  nHint : PySem.W.findIn K (.ref A.a_Hanging) "__length_hint__" = some none
  nfN : PySem.W.notFirst K A.a_Hanging (.type "NoneType") = true
  nfD : PySem.W.notFirst K A.a_Hanging (.type "dict") = true
  nfH : PySem.W.notFirst K A.a_Hanging (.ref A.a_Hanging) = true
  kHH : PySem.W.kitOne K (.ref A.a_Hanging) (.ref A.a_Hanging) = some true
  kHN : PySem.W.kitOne K (.type "NoneType") (.ref A.a_Hanging) = some false
  kHD : PySem.W.kitOne K (.type "dict") (.ref A.a_Hanging) = some false
  m_eq : Meth K A.a_Hanging "__eq__" A.a_Hanging___eq__
  nE : PySem.W.findIn K (.ref A.a_Hanging) "__ne__" = some (some (.builtin "object.__ne__"))
  mO : PySem.W.mroIn K A.a_Hanging (.type "object") = some true
  sN : PySem.W.subIn K (.ref A.a_Hanging) (.type "NoneType") = some false
  sD : PySem.W.subIn K (.ref A.a_Hanging) (.type "dict") = some false
  xN : OexC K A.a_NoDish
  nN : PySem.W.findIn K (.ref A.a_NoDish) "name" = some none
  iN : PySem.W.findIn K (.ref A.a_NoDish) "__init__" = some (some (.ref A.a_NoDish___init__))
  tN : PySem.W.typeIn K (.ref A.a_NoDish___init__) = some (.type "function")
  g_NoDish : mg "NoDish" = some (.ref A.a_NoDish)
  xfN : XfC K A.a_NoDish
  eN : PySem.W.exmOne K (.ref A.a_NoDish) (.ref A.a_NoDish) = some true

/-! ### the state of draws -/
def er (H : Hp) (st : Addr) : Hp := fun b => if b = st then none else H b
theorem er_ne {H : Hp} {st b : Addr} (h : b ≠ st) : er H st b = H b := if_neg h
theorem er_some {H : Hp} {st b : Addr} {o : HO} (h : er H st b = some o) : b ≠ st ∧ H b = some o := by
  by_cases e : b = st
  · rw [e] at h
    rw [show er H st st = none from if_pos rfl] at h
    cases h
  · exact ⟨e, (er_ne e).symm.trans h⟩
theorem er_same (H : Hp) (st : Addr) : Same (er H st) H := fun _ _ h => (er_some h).2
theorem er_upd (H : Hp) (st : Addr) (o : HO) : er (upd H st o) st = er H st := by
  funext b
  by_cases e : b = st
  · rw [e]; exact (if_pos rfl).trans (if_pos rfl).symm
  · rw [er_ne e, er_ne e, upd_ne e]
theorem er_of {H : Hp} {st b : Addr} {o : HO} (h : b ≠ st) (e : H b = some o) : er H st b = some o := (er_ne h).trans e
theorem er_mono {H H' : Hp} {st : Addr} (s : Same H H') : Same (er H st) (er H' st) := fun b o h =>
  er_of (er_some h).1 (s _ _ (er_some h).2)
def five (c : Addr) (i l m n : Int) : HO := .lst [.ref c, .int i, .int l, .int m, .int n]
structure Sta (H : Hp) (st c : Addr) (b : Int) : Prop where
  ex : ∃ (cs : List Int) (i : Nat) (l m n : Int), H st = some (five c (i : Int) l m n) ∧ er H st c = some (.lst (cs.map V.int)) ∧ i ≤ cs.length ∧ 0 ≤ l ∧ 0 ≤ m ∧ m < 2147483647 ∧ 0 ≤ n ∧ n ≤ b ∧ b ≤ 1000000
theorem Sta.same {H H' : Hp} {st c : Addr} {b : Int} (h : Sta H st c b) (s : Same H H') : Sta H' st c b := by
  obtain ⟨cs, i, l, m, n, h1, h2, h3⟩ := h.ex
  exact ⟨cs, i, l, m, n, s _ _ h1, er_mono s _ _ h2, h3⟩
theorem Sta.le {H : Hp} {st c : Addr} {b b' : Int} (h : Sta H st c b) (hb : b ≤ b') (h9 : b' ≤ 1000000) : Sta H st c b' := by
  obtain ⟨cs, i, l, m, n, h1, h2, h3, h4, h5, h6, h7, h8, _⟩ := h.ex
  exact ⟨cs, i, l, m, n, h1, h2, h3, h4, h5, h6, h7, by omega, h9⟩
theorem Sta.ne {H : Hp} {st c p : Addr} {b : Int} (h : Sta H st c b) (hp : H p = none) : p ≠ st := by
  obtain ⟨cs, i, l, m, n, h1, _⟩ := h.ex
  exact fun e => by rw [e, h1] at hp; cases hp
theorem Sta.nec {H : Hp} {st c p : Addr} {b : Int} (h : Sta H st c b) (hp : er H st p = none) : c ≠ p := by
  obtain ⟨cs, i, l, m, n, _, h1, _⟩ := h.ex
  exact ne_of_none h1 hp
theorem Same.new {H : Hp} {p : Addr} {o : HO} (hp : H p = none) : Same H (upd H p o) := fun b u e => by
  rw [upd_ne (ne_of_none e hp)]; exact e
theorem sqUp {K : PySem.W.Frag} {H H' : Hp} {a : Addr} {xs : List V} (h : SqL K H a xs) (s : Same H H') : SqL K H' a xs := s.seq h
theorem sqEr {K : PySem.W.Frag} {H : Hp} {st a : Addr} {xs : List V} (h : SqL K (er H st) a xs) : SqL K H a xs := (er_same H st).seq h
theorem er_updp {H : Hp} {st p : Addr} {o : HO} (hp : p ≠ st) : er (upd H p o) st = upd (er H st) p o := by
  funext b
  by_cases e : b = st
  · rw [e, upd_ne (fun z => hp z.symm)]; exact (if_pos rfl).trans (if_pos rfl).symm
  · by_cases e2 : b = p
    · rw [e2, upd_same, er_ne hp, upd_same]
    · rw [upd_ne e2, er_ne e, er_ne e, upd_ne e2]
theorem er_none {H : Hp} {st p : Addr} (h : H p = none) : er H st p = none := by
  by_cases e : p = st
  · exact if_pos e
  · exact (er_ne e).trans h
/-- what a helper that draws leaves: the state, and all that stood beside it -/
structure Gs (st c : Addr) (H H' : Hp) (b : Int) : Prop where
  sta : Sta H' st c b
  same : Same (er H st) (er H' st)
theorem Gs.trans {st c : Addr} {H H1 H2 : Hp} {b b' : Int} (g : Gs st c H H1 b) (g' : Gs st c H1 H2 b') : Gs st c H H2 b' := ⟨g'.sta, g.same.trans g'.same⟩
theorem Gs.refl {st c : Addr} {H : Hp} {b : Int} (h : Sta H st c b) : Gs st c H H b := ⟨h, Same.refl _⟩
theorem Gs.of_upd {st c : Addr} {H : Hp} {o : HO} {b : Int} (h : Sta (upd H st o) st c b) : Gs st c H (upd H st o) b := ⟨h, by rw [er_upd]; exact Same.refl _⟩
theorem Gs.of_same {st c : Addr} {H H' : Hp} {b : Int} (h : Sta H st c b) (s : Same H H') : Gs st c H H' b := ⟨h.same s, er_mono s⟩
theorem Gs.le {st c : Addr} {H H' : Hp} {b b' : Int} (g : Gs st c H H' b) (hb : b ≤ b') (h9 : b' ≤ 1000000) : Gs st c H H' b' := ⟨g.sta.le hb h9, g.same⟩
/-- a thing of the helper's own changes -/
theorem Gs.set {st c p : Addr} {H H' : Hp} {b : Int} {o : HO} (g : Gs st c H H' b) (hc : er H st c ≠ none) (hp : er H st p = none) (hs : p ≠ st) : Gs st c H (upd H' p o) b := by
  refine ⟨?_, fun b u e => ?_⟩
  · obtain ⟨cs, i, l, m, n, h1, h2, h3⟩ := g.sta.ex
    refine ⟨cs, i, l, m, n, by rw [upd_ne (fun z => hs z.symm)]; exact h1, ?_, h3⟩
    rw [er_updp hs, upd_ne (fun z => hc (by rw [z]; exact hp))]
    exact h2
  · rw [er_updp hs, upd_ne (ne_of_none e hp)]
    exact g.same _ _ e
theorem Gs.new {st c p : Addr} {H H' : Hp} {b : Int} {o : HO} (g : Gs st c H H' b) (hp : H' p = none) : Gs st c H (upd H' p o) b :=
  g.trans (Gs.of_same g.sta (Same.new hp))
theorem Sta.hc {H : Hp} {st c : Addr} {b : Int} (h : Sta H st c b) : er H st c ≠ none := by
  obtain ⟨cs, i, l, m, n, _, h1, _⟩ := h.ex
  rw [h1]
  exact fun z => by cases z

theorem while_ex {c : TT} {tb : TS} {D : Ends} {σ : St} {H : Hp} (W : Nat → St → Hp → Prop) (Ex : St → Hp → Prop) {m : Nat} (h0 : W m σ H)
    (hs : ∀ nx : St → Hp → Prop, (∀ σ H, Ex σ H → nx σ H) → ∀ m σ H, W m σ H → c σ H fun b H1 => if b = true then ∃ N : St → Hp → Prop, (∀ σ' H', N σ' H' → ∃ m', m' < m ∧ W m' σ' H') ∧ tb { D with nx := N, ct := N, bk := nx } σ H1 else nx σ H1)
    (hd : ∀ σ H, Ex σ H → D.nx σ H) : tWhile c tb D σ H := ⟨W, ⟨m, h0⟩, hs D.nx hd⟩
theorem cast_heap {F : Hp → Prop} {a b : Hp} (e : a = b) (h : F b) : F a := e ▸ h

def spTake : Sp := fun vs H Q _ => ∃ (st c : Addr) (many b : Int), vs = [.ref st, .int many] ∧ Sta H st c b ∧ b + 1 ≤ 1000000 ∧ 0 < many ∧ many < 1073741824 ∧
  ∀ (r : Int) (o : HO), 0 ≤ r → r < many → Sta (upd H st o) st c (b + 1) → Q (.int r) (upd H st o)

local macro_rules | `(tactic| walk_at "rd1") => `(tactic| first
  | refine ⟨_, _, rfl, rfl, ?_⟩
  | refine ⟨_, _, _, _, rfl, rfl, SqL.of (by assumption), rfl, ?_⟩
  | refine ⟨_, _, _, _, rfl, rfl, (by assumption), rfl, ?_⟩
  | refine .inl ⟨_, rfl, ?_⟩
  | refine ⟨_, rfl, ?_⟩
  | refine ⟨(by unfold CMul; omega), ?_⟩
  | refine ⟨(by unfold CPow; omega), ?_⟩
  | refine ⟨(by (try dsimp only); omega), ?_⟩
  | refine ⟨(by unfold CDiv; omega), ?_⟩
  | fail "rd1")
local macro_rules | `(tactic| walk_at "rd") => `(tactic| repeat' (walk_at "rd1"))
def spFresh (K : PySem.W.Frag) : Sp := fun vs H Q _ => ∃ (a : Addr) (ns : List Int), vs = [.ref a] ∧ SqL K H a (ns.map V.int) ∧
  ∀ (st c : Addr) (H' : Hp), Same H (er H' st) → Sta H' st c 0 → Q (.ref st) H'
def spOne (K : PySem.W.Frag) : Sp := fun vs H Q _ => ∃ (st c t : Addr) (xs : List V) (b : Int), vs = [.ref st, .ref t] ∧ Sta H st c b ∧ b + 1 ≤ 1000000 ∧ SqL K (er H st) t xs ∧ 0 < xs.length ∧ xs.length < 1073741824 ∧
  ∀ (i : Nat) (v : V) (H' : Hp), xs[i]? = some v → Gs st c H H' (b + 1) → Q v H'
def spMix (K : PySem.W.Frag) : Sp := fun vs H Q _ => ∃ (st c t : Addr) (ss : List Str) (b : Int), vs = [.ref st, .ref t] ∧ Sta H st c b ∧ b + 64 ≤ 1000000 ∧ SqL K (er H st) t (ss.map V.str) ∧ ss.length ≤ 64 ∧ (∀ s ∈ ss, PyData.strOk s = true) ∧
  ∀ (p : Addr) (ys : List Str) (H' : Hp), ys.Perm ss → Gs st c H H' (b + 64) → er H' st p = some (.lst (ys.map V.str)) → er H st p = none → Q (.ref p) H'
def spSome (K : PySem.W.Frag) : Sp := fun vs H Q _ => ∃ (st c t : Addr) (ss : List Str) (b : Int), vs = [.ref st, .ref t] ∧ Sta H st c b ∧ b + 64 ≤ 1000000 ∧ SqL K (er H st) t (ss.map V.str) ∧ ss.length ≤ 64 ∧
  ∀ (p : Addr) (ys : List Str) (H' : Hp), ys.Sublist ss → Gs st c H H' (b + 64) → er H' st p = some (.lst (ys.map V.str)) → er H st p = none → Q (.ref p) H'
section
variable {P : Program} {w : World} {K : PySem.W.Frag} {mg : Str → Option Value} {base : Heap} {A : Ad}
theorem ok_take (T : Txt K mg A) : FnOk P w K mg base CX0 1 A.a__law_take A.d__law_take P__law_take spTake := by
  refine T.f__law_take.ok sc__law_take (fun vs H Q E h => ?_) (fun cdv A' outer s H vs Q E hr h => ?_)
  · obtain ⟨st, c, many, b, rfl, _⟩ := h
    rfl
  · obtain ⟨st, c, many, b, rfl, S, hb1, hm0, hm1, k⟩ := h
    obtain ⟨cs, i, l, m, n, h1, h2, h3, h4, h5, h6, h7, h8, h9⟩ := S.ex
    refine ⟨_, (pss_cons (ps_asg (pe_op op_add (pe_ix ix_list (pv 0) pe_int (fun _ _ => rfl)) pe_int) (pg_sub (pv 0) pe_int set_list))
 (pss_cons (ps_while PassesOwn.never (PW.pt (pw_and (pt_cmpR op_eq (pe_ix ix_list (pv 0) pe_int (fun _ _ => rfl)) pe_int (nomark _)) (pw_and1 (pt_cmpR op_lt (pe_ix ix_list (pv 0) pe_int (fun _ _ => rfl)) (pe_callB call_len_seq (by rfl) T.len PySem.boot_len (pa_cons (pe_ix ix_list (pv 0) pe_int (fun _ _ => rfl)) pa_nil)) (nomark _)))))
 (pss_cons (ps_set (i := 2) sc__law_take.nd rfl (Or.inl rfl) (pe_callB call_abs (by rfl) T.abs (by decide +kernel) (pa_cons (pe_ix ix_list (pe_ix ix_list (pv 0) pe_int (fun _ _ => rfl)) (pe_ix ix_list (pv 0) pe_int (fun _ _ => rfl)) (fun _ _ => rfl)) pa_nil)))
 (pss_cons (ps_asg (pe_op op_add (pe_ix ix_list (pv 0) pe_int (fun _ _ => rfl)) pe_int) (pg_sub (pv 0) pe_int set_list))
 (pss_one (ps_if (pt_cmpR op_ge (pv 2) (pe_op op_pow pe_int pe_int) (nomark _))
 (pss_one (ps_asg (pv 2) (pg_sub (pv 0) pe_int set_list)))
 (pss_one (ps_asg (pe_op op_mod (pe_callTy call_int1 (by rfl) T.int (by decide +kernel) (pa_cons (pe_op op_add (pe_op op_add (pe_op op_mul (pe_ix ix_list (pv 0) pe_int (fun _ _ => rfl)) pe_int) (pv 2)) pe_int) pa_nil)) pe_int) (pg_sub (pv 0) pe_int set_list))))))))
 (pss_cons (ps_if (pt_cmpR op_gt (pe_ix ix_list (pv 0) pe_int (fun _ _ => rfl)) pe_int (nomark _))
 (pss_cons (ps_set (i := 3) sc__law_take.nd rfl (Or.inl rfl) (pe_op op_mod (pe_callTy call_int1 (by rfl) T.int (by decide +kernel) (pa_cons (pe_ix ix_list (pv 0) pe_int (fun _ _ => rfl)) pa_nil)) (pv 1)))
 (pss_cons (ps_asg (pe_op op_fdiv (pe_ix ix_list (pv 0) pe_int (fun _ _ => rfl)) (pv 1)) (pg_sub (pv 0) pe_int set_list))
 (pss_one (ps_ret (pv 3)))))
 pss_nil)
 (pss_cons (ps_set (i := 4) sc__law_take.nd rfl (Or.inl rfl) (pe_op op_mod (pe_callTy call_int1 (by rfl) T.int (by decide +kernel) (pa_cons (pe_op op_pow (pe_op op_add (pe_op op_add (pe_ix ix_list (pv 0) pe_int (fun _ _ => rfl)) (pe_op op_mul pe_int (pe_ix ix_list (pv 0) pe_int (fun _ _ => rfl)))) pe_int) pe_int) pa_nil)) pe_int))
 (pss_cons (ps_set (i := 4) sc__law_take.nd rfl (Or.inl rfl) (pe_op op_mod (pe_callTy call_int1 (by rfl) T.int (by decide +kernel) (pa_cons (pe_op op_pow (pe_op op_add (pv 4) (pe_op op_mul pe_int (pe_ix ix_list (pv 0) pe_int (fun _ _ => rfl)))) pe_int) pa_nil)) pe_int))
 (pss_one (ps_ret (pe_op op_mod (pe_callTy call_int1 (by rfl) T.int (by decide +kernel) (pa_cons (pe_op op_fdiv (pv 4) pe_int) pa_nil)) (pv 1))))))))), ?_⟩
    -- state[4] = state[4] + 1
    refine ⟨_, rfl, _, _, _, _, rfl, rfl, SqL.of h1, rfl, _, _, rfl, rfl, _, rfl, _, _, _, _, rfl, rfl, h1, rfl, ?_⟩
    refine while_ex (fun mm σ' H' => ∃ (i : Nat) (l m : Int) (v : Option V), σ' = [some (.ref st), some (.int many), v, none, none] ∧ H' = upd H st (five c (i : Int) l m (n + 1)) ∧ i ≤ cs.length ∧ 0 ≤ l ∧ 0 ≤ m ∧ m < 2147483647 ∧ mm = cs.length - i)
      (fun σ' H' => ∃ (i : Nat) (l m : Int) (v : Option V), σ' = [some (.ref st), some (.int many), v, none, none] ∧ H' = upd H st (five c (i : Int) l m (n + 1)) ∧ i ≤ cs.length ∧ 0 ≤ l ∧ 0 ≤ m ∧ m < 2147483647)
      ⟨i, l, m, none, rfl, rfl, h3, h4, h5, h6, rfl⟩ (fun nx hnx => ?_) ?_
    rintro mm σ' H' ⟨i, l, m, v, rfl, rfl, h3, h4, h5, h6, rfl⟩
    have hu : upd H st (five c (i : Int) l m (n + 1)) st = some (five c (i : Int) l m (n + 1)) := upd_same
    have hc : SqL K (upd H st (five c (i : Int) l m (n + 1))) c (cs.map V.int) := SqL.of ((er_same _ st) _ _ (by rw [er_upd]; exact h2))
    -- the test
    refine ⟨_, rfl, _, _, _, _, rfl, rfl, SqL.of hu, rfl, rfl, _, rfl, ?_⟩
    refine ite2 (fun hl => ?_) (fun hl => ?_)
    · have el : l = 0 := by
        have q := of_decide_eq_true hl
        cases q
        rfl
      subst el
      refine ⟨_, rfl, _, _, _, _, rfl, rfl, SqL.of hu, rfl, _, rfl, _, _, _, _, rfl, rfl, SqL.of hu, rfl, _, _, rfl, .inl hc, _, _, rfl, rfl, _, rfl, ?_⟩
      refine ite2 (fun hi => ?_) (fun hi => ?_)
      · have hi' : i < cs.length := by
          have q := of_decide_eq_true hi
          rw [List.length_map] at q
          omega
        refine ⟨_, fun _ _ z => z, ?_⟩
        -- cell = abs(state[0][state[1]]); state[1] = state[1] + 1
        refine ⟨_, rfl, _, _, _, _, rfl, rfl, SqL.of hu, rfl, _, rfl, _, _, _, _, rfl, rfl, SqL.of hu, rfl, _, _, _, _, rfl, rfl, hc, atI_nat (by rw [List.getElem?_map, List.getElem?_eq_getElem hi']; rfl), _, rfl, ?_⟩
        refine ⟨_, rfl, _, _, _, _, rfl, rfl, SqL.of hu, rfl, _, _, rfl, rfl, _, rfl, _, _, _, _, rfl, rfl, hu, rfl, ?_⟩
        have e2 : upd (upd H st (five c (i : Int) 0 m (n + 1))) st (five c ((i : Int) + 1) 0 m (n + 1)) = upd H st (five c (((i + 1 : Nat)) : Int) 0 m (n + 1)) := upd_upd
        refine cast_heap e2 ?_
        have hu2 : upd H st (five c (((i + 1 : Nat)) : Int) 0 m (n + 1)) st = some (five c (((i + 1 : Nat)) : Int) 0 m (n + 1)) := upd_same
        generalize hcell : (if cs[i] < 0 then -cs[i] else cs[i]) = cell
        have hc0 : 0 ≤ cell := by
          rw [← hcell]
          split <;> omega
        -- if cell >= 10 ** 18
        refine ⟨_, rfl, _, _, rfl, rfl, ⟨by decide, by decide, by decide⟩, _, _, rfl, rfl, _, rfl, ?_⟩
        refine ite2 (fun hg => ?_) (fun hg => ?_)
        · refine ⟨_, rfl, _, rfl, _, _, _, _, rfl, rfl, hu2, rfl, ?_⟩
          exact ⟨cs.length - (i + 1), by omega, i + 1, cell, m, _, rfl, upd_upd, hi', hc0, h5, h6, rfl⟩
        · have hlt : cell < 10 ^ 18 := by
            refine Int.not_le.mp fun q => hg (decide_eq_true ?_)
            exact q
          refine ⟨_, rfl, _, _, _, _, rfl, rfl, SqL.of hu2, rfl, _, _, rfl, rfl, .inl ⟨by omega, by omega⟩, _, rfl, _, _, rfl, rfl, _, _, rfl, rfl, .inl ⟨_, rfl, _, _, rfl, rfl, (by show (0 : Int) < 2147483647; decide), _, rfl, _, _, _, _, rfl, rfl, hu2, rfl, ?_⟩⟩
          refine ⟨cs.length - (i + 1), by omega, i + 1, 0, (m * 131 + cell + 1) % 2147483647, _, rfl, upd_upd, hi', Int.le_refl _, Int.emod_nonneg _ (by decide), Int.emod_lt_of_pos _ (by decide), rfl⟩
      · exact hnx _ _ ⟨i, 0, m, v, rfl, rfl, h3, h4, h5, h6⟩
    · exact hnx _ _ ⟨i, l, m, v, rfl, rfl, h3, h4, h5, h6⟩
    -- behind the loop
    rintro σ' H' ⟨i, l, m, v, rfl, rfl, h3, h4, h5, h6⟩
    have hu : upd H st (five c (i : Int) l m (n + 1)) st = some (five c (i : Int) l m (n + 1)) := upd_same
    have mk : ∀ (i : Nat) (l m : Int), i ≤ cs.length → 0 ≤ l → 0 ≤ m → m < 2147483647 → Sta (upd H st (five c (i : Int) l m (n + 1))) st c (b + 1) := fun i l m h3 h4 h5 h6 =>
      ⟨cs, i, l, m, n + 1, upd_same, by rw [er_upd]; exact h2, h3, h4, h5, h6, by omega, by omega, hb1⟩
    refine ⟨_, rfl, _, _, _, _, rfl, rfl, SqL.of hu, rfl, _, _, rfl, rfl, _, rfl, ?_⟩
    refine ite2 (fun hl => ?_) (fun hl => ?_)
    · refine ⟨_, rfl, _, _, _, _, rfl, rfl, SqL.of hu, rfl, .inl ⟨_, rfl, _, rfl, _, _, rfl, rfl, hm0, ?_⟩⟩
      refine ⟨_, rfl, _, _, _, _, rfl, rfl, SqL.of hu, rfl, _, rfl, _, _, rfl, rfl, ⟨hm0, by omega⟩, _, rfl, _, _, _, _, rfl, rfl, hu, rfl, ?_⟩
      refine cast_heap (b := upd H st (five c (i : Int) (l / many) m (n + 1))) upd_upd ?_
      refine ⟨_, rfl, ?_⟩
      exact k _ _ (Int.emod_nonneg _ (by omega)) (Int.emod_lt_of_pos _ hm0) (mk i (l / many) m h3 (Int.ediv_nonneg h4 (by omega)) h5 h6)
    · have hp : ∀ x : Int, 0 ≤ x → x < 10000000000 → (0 : Int) ≤ 3 ∧ (3 : Int) ≤ 1000000 ∧ x.natAbs < 2 ^ 64 := fun x a b => ⟨by omega, by omega, by omega⟩
      walk_at "rd"
      exact k _ _ (Int.emod_nonneg _ (by omega)) (Int.emod_lt_of_pos _ hm0) (mk i l m h3 h4 h5 h6)
theorem ok_fresh (T : Txt K mg A) : FnOk P w K mg base CX0 1 A.a__law_fresh A.d__law_fresh P__law_fresh (spFresh K) := by
  refine T.f__law_fresh.ok sc__law_fresh (fun vs H Q E h => ?_) (fun cdv A' outer s H vs Q E hr h => ?_)
  · obtain ⟨a, ns, rfl, _⟩ := h
    rfl
  · obtain ⟨a, ns, rfl, hS, k⟩ := h
    refine ⟨_, (pss_one (ps_ret (pe_lst (pa_cons (pe_callTy call_list_of (by rfl) T.list (by decide +kernel) (pa_cons (pe_slice sl_list (pv 0) po_none (po_some pe_int)) pa_nil)) (pa_cons pe_int (pa_cons pe_int (pa_cons pe_int (pa_cons pe_int pa_nil)))))))), ?_⟩
    refine ⟨_, rfl, _, rfl, _, _, rfl, hS, fun p hp => ⟨_, _, rfl, .inl (SqL.of upd_same), fun c hc => ⟨by show 5 ≤ sizeLine; decide, fun st hst => ?_⟩⟩⟩
    have s1 : Same H (upd (upd H p (.lst (cutV (ns.map V.int) none (some 40)))) c (.lst (cutV (ns.map V.int) none (some 40)))) := (Same.new hp).trans (Same.new hc)
    have hst0 : H st = none := s1.free hst
    have ec : cutV (ns.map V.int) none (some 40) = (ns.take 40).map V.int := by
      unfold cutV
      rw [HT.sIx_none, show ((40 : Int)) = ((40 : Nat) : Int) from rfl, HT.sIx_nat]
      rw [List.drop_zero, Nat.sub_zero, List.map_take, List.length_map]
      by_cases h40 : 40 ≤ ns.length
      · rw [Nat.min_eq_left h40]
      · rw [Nat.min_eq_right (by omega), List.take_of_length_le (by simp), List.take_of_length_le (by simp; omega)]
    have hcs : c ≠ st := fun e => by rw [← e, upd_same] at hst; cases hst
    refine k st c _ (fun b o e => er_of (fun z => by rw [z, hst0] at e; cases e) (by rw [upd_ne (fun z => by rw [z, hst0] at e; cases e)]; exact s1 _ _ e)) ?_
    refine ⟨ns.take 40, 0, 0, 0, 0, upd_same, er_of hcs ?_, Nat.zero_le _, Int.le_refl _, Int.le_refl _, by decide, Int.le_refl _, Int.le_refl _, by decide⟩
    rw [upd_ne hcs, upd_same, ec]
theorem ok_one (T : Txt K mg A) : FnOk P w K mg base CX0 2 A.a__law_one A.d__law_one P__law_one (spOne K) := by
  have G__law_take : FnOk P w K mg base CX0 1 A.a__law_take A.d__law_take P__law_take spTake := ok_take T
  refine T.f__law_one.ok sc__law_one (fun vs H Q E h => ?_) (fun cdv A' outer s H vs Q E hr h => ?_)
  · obtain ⟨st, c, t, xs, b, rfl, _⟩ := h
    rfl
  · obtain ⟨st, c, t, xs, b, rfl, S, hb, hS, h0, h1, k⟩ := h
    refine ⟨_, (pss_one (ps_ret (pe_ix ix_list (pv 1) (pe_call G__law_take (hr.mono (by omega)) (by rfl) T.g__law_take T.f__law_take.kp T.b__law_take .nil pass0 (pa_cons (pv 0) (pa_cons (pe_callB call_len_seq (by rfl) T.len PySem.boot_len (pa_cons (pv 1) pa_nil)) pa_nil))) (fun _ _ => rfl)))), ?_⟩
    refine ⟨_, rfl, _, rfl, _, rfl, _, _, rfl, .inl (sqEr hS), st, c, _, b, rfl, S, hb, by omega, by omega, fun r o hr0 hr1 S' => ?_⟩
    have g := Gs.of_upd S'
    have hi : r.toNat < xs.length := by omega
    refine ⟨_, _, _, _, rfl, rfl, sqEr (sqUp hS g.same), at_of (j := r.toNat) (by omega) (List.getElem?_eq_getElem hi), ?_⟩
    exact k r.toNat _ _ (List.getElem?_eq_getElem hi) g
end
end K5
set_option Elab.async false
set_option linter.all false
set_option maxRecDepth 100000
set_option maxHeartbeats 4000000
namespace K5
open PySem L2
local macro_rules | `(tactic| walk_at "rd1") => `(tactic| first
  | refine ⟨_, _, rfl, rfl, ?_⟩
  | refine ⟨_, _, _, _, rfl, rfl, SqL.of (by assumption), rfl, ?_⟩
  | refine ⟨_, _, _, _, rfl, rfl, (by assumption), rfl, ?_⟩
  | refine .inl ⟨_, rfl, ?_⟩
  | refine ⟨_, rfl, ?_⟩
  | refine ⟨(by unfold CMul; omega), ?_⟩
  | refine ⟨(by unfold CPow; omega), ?_⟩
  | refine ⟨(by (try dsimp only); omega), ?_⟩
  | refine ⟨(by unfold CDiv; omega), ?_⟩
  | fail "rd1")
local macro_rules | `(tactic| walk_at "rd") => `(tactic| repeat' (walk_at "rd1"))
section
variable {P : Program} {w : World} {K : PySem.W.Frag} {mg : Str → Option Value} {base : Heap} {A : Ad}

theorem stUp {H H' : Hp} {a : Addr} {xs : List V} (h : SqT K H a xs) (s : Same H H') : SqT K H' a xs := by
  rcases h with (h | ⟨o, h⟩) | h
  · exact .inl (.inl (s _ _ h))
  · exact .inl (.inr ⟨o, s _ _ h⟩)
  · exact .inr h
theorem map_erase {α β : Type} (g : α → β) :
    ∀ (l : List α) (j : Nat), (l.eraseIdx j).map g = (l.map g).eraseIdx j
  | [], _ => rfl
  | _ :: _, 0 => rfl
  | a :: l, j + 1 => congrArg (g a :: ·) (map_erase g l j)
theorem erase_perm {α : Type} : ∀ {ls : List α} {i : Nat} {y : α}, ls[i]? = some y → (y :: ls.eraseIdx i).Perm ls
  | a :: l, 0, y, h => by
    have e : a = y := Option.some.inj h
    rw [e]
    exact List.Perm.refl _
  | a :: l, i + 1, y, h => (List.Perm.swap a y (l.eraseIdx i)).trans ((erase_perm (ls := l) (i := i) (y := y) h).cons a)
  | [], i, y, h => by simp at h
theorem seqIx {r : Int} {n : Nat} (h0 : 0 ≤ r) (h1 : r < (n : Int)) : seqIndex? r n = some r.toNat := by
  unfold seqIndex?
  have e : ¬ r < 0 := by omega
  simp only [e, if_false]
  have : ((0 : Int) ≤ r && r < (n : Int)) = true := by simp [h0, h1]
  simp [h0, h1]
mutual
theorem dpSame {H H' : Hp} (s : Same H H') : ∀ {v : V} {d : PyData}, Dp K H v d → Dp K H' v d
  | _, _, .non => .non
  | _, _, .bl b => .bl b
  | _, _, .int i => .int i
  | _, _, .str x => .str x
  | _, _, .lst h q => .lst (s.seq h) (dpAllSame s q)
  | _, _, .tup h q => .tup (stUp h s) (dpAllSame s q)
theorem dpAllSame {H H' : Hp} (s : Same H H') : ∀ {vs : List V} {ds : List PyData}, DpAll K H vs ds → DpAll K H' vs ds
  | _, _, .nil => .nil
  | _, _, .cons a b => .cons (dpSame s a) (dpAllSame s b)
end
theorem dpStrs {H : Hp} : ∀ ss : List Str, DpAll K H (ss.map V.str) (ss.map PyData.str)
  | [] => .nil
  | s :: ss => .cons (.str s) (dpStrs ss)
theorem strs_lay : ∀ {ss : List Str}, (∀ s ∈ ss, PyData.strOk s = true) → PyData.canLayAll0 (ss.map PyData.str) = true
  | [], _ => by simp [PyData.canLayAll0]
  | s :: ss, h => by
    simp only [List.map_cons, PyData.canLayAll0, PyData.canLay0, h s (List.mem_cons_self ..), Bool.true_and]
    exact strs_lay fun t ht => h t (List.mem_cons_of_mem _ ht)
theorem strs_depth : ∀ ss : List Str, PyData.depthAll (ss.map PyData.str) = 0
  | [] => by simp [PyData.depthAll]
  | s :: ss => by simp only [List.map_cons, PyData.depthAll, PyData.depth, strs_depth ss]; rfl
theorem strs_shaped {ss : List Str} (h : ∀ s ∈ ss, PyData.strOk s = true) : SeqAt.shaped (.list (ss.map PyData.str)) = true := by
  show (PyData.canLay0 (.list (ss.map PyData.str)) && decide (PyData.depth (.list (ss.map PyData.str)) ≤ 64)) = true
  rw [Bool.and_eq_true]
  refine ⟨by simp only [PyData.canLay0]; exact strs_lay h, decide_eq_true ?_⟩
  simp only [PyData.depth, strs_depth]
  decide
theorem eqv_strs_nil : ∀ ss : List Str, PyData.eqv (.list (ss.map PyData.str)) (.list []) = ss.isEmpty
  | [] => by simp [PyData.eqv, PyData.eqvAll]
  | s :: ss => by simp [PyData.eqv, PyData.eqvAll]
theorem perm_move {α : Type} {fs ls : List α} {i : Nat} {y : α} (h : ls[i]? = some y) : (fs ++ [y] ++ ls.eraseIdx i).Perm (fs ++ ls) := by
  rw [List.append_assoc]
  exact List.Perm.append_left fs (erase_perm h)
theorem ok_mix (T : Txt K mg A) : FnOk P w K mg base CX0 2 A.a__law_mix A.d__law_mix P__law_mix (spMix K) := by
  have G__law_take : FnOk P w K mg base CX0 1 A.a__law_take A.d__law_take P__law_take spTake := ok_take T
  refine T.f__law_mix.ok sc__law_mix (fun vs H Q E h => ?_) (fun cdv A' outer s H vs Q E hr h => ?_)
  · obtain ⟨st, c, t, ss, b, rfl, _⟩ := h
    rfl
  · obtain ⟨st, c, t, ss, b, rfl, S, hb, hS, hl, hok, k⟩ := h
    refine ⟨_, (pss_cons (ps_par (i := 2) (j := 3) (by rfl) sc__law_mix.nd rfl rfl (by decide) rfl rfl (pa_cons (pe_callTy call_list_of (by rfl) T.list (by decide +kernel) (pa_cons (pv 1) pa_nil)) (pa_cons (pe_lst pa_nil) pa_nil)) (by rfl))
 (pss_cons (ps_while PassesOwn.never (pt_cmpR (op_neD hr.units) (pv 2) (pe_lst pa_nil) (nomark _))
 (pss_one (ps_expr (pe_bm PySem.F.plainAttrs_list PySem.F.slot_list_append PySem.F.type_list_append mt_append (pv 3) (pa_cons (pe_bm PySem.F.plainAttrs_list PySem.F.slot_list_pop PySem.F.type_list_pop mt_popAt (pv 2) (pa_cons (pe_call G__law_take (hr.mono (by omega)) (by rfl) T.g__law_take T.f__law_take.kp T.b__law_take .nil pass0 (pa_cons (pv 0) (pa_cons (pe_callB call_len_seq (by rfl) T.len PySem.boot_len (pa_cons (pv 2) pa_nil)) pa_nil))) pa_nil)) pa_nil)))))
 (pss_one (ps_ret (pv 3))))), ?_⟩
    refine ⟨_, rfl, _, _, rfl, .inl (sqEr hS), fun left nl => ⟨Nat.zero_le _, fun fnd nf => ⟨_, _, rfl, ?_⟩⟩⟩
    have nls : left ≠ st := S.ne nl
    have nf0 : H fnd = none := (Same.new nl).free nf
    have nfs : fnd ≠ st := S.ne nf0
    have nlf : left ≠ fnd := ne_of_none upd_same nf
    have el : er H st left = none := er_none nl
    have ef : er H st fnd = none := er_none nf0
    have g0 : Gs st c H (upd (upd H left (.lst (ss.map V.str))) fnd (.lst [])) b := (Gs.refl S).set S.hc el nls |>.set S.hc ef nfs
    refine while_ex (fun mm σ' H' => ∃ (ls fs : List Str), σ' = [some (.ref st), some (.ref t), some (.ref left), some (.ref fnd)] ∧ H' left = some (.lst (ls.map V.str)) ∧ H' fnd = some (.lst (fs.map V.str)) ∧ (fs ++ ls).Perm ss ∧ Gs st c H H' (b + (fs.length : Int)) ∧ mm = ls.length)
      (fun σ' H' => ∃ (fs : List Str), σ' = [some (.ref st), some (.ref t), some (.ref left), some (.ref fnd)] ∧ H' fnd = some (.lst (fs.map V.str)) ∧ fs.Perm ss ∧ Gs st c H H' (b + (fs.length : Int)))
      ⟨ss, [], rfl, by rw [upd_ne nlf, upd_same], by rw [upd_same]; rfl, List.Perm.refl _, by simpa using g0, rfl⟩ (fun nx hnx => ?_) ?_
    · rintro mm σ' H' ⟨ls, fs, rfl, h1, h2, hp, g, rfl⟩
      have hpl : fs.length + ls.length = ss.length := by rw [← List.length_append]; exact hp.length_eq
      have hls : ∀ s ∈ ls, PyData.strOk s = true := fun s hs => hok s (hp.mem_iff.mp (List.mem_append_right _ hs))
      refine ⟨_, rfl, Nat.zero_le _, fun e he => ⟨.list (ls.map PyData.str), .list [], ?_⟩⟩
      have h1' : upd H' e (.lst []) left = some (.lst (ls.map V.str)) := Same.new he _ _ h1
      have h2' : upd H' e (.lst []) fnd = some (.lst (fs.map V.str)) := Same.new he _ _ h2
      have g' : Gs st c H (upd H' e (.lst [])) (b + (fs.length : Int)) := g.new he
      refine ⟨.lst (SqL.of h1') (dpStrs ls), .lst (SqL.of upd_same) .nil, strs_shaped hls, by decide +kernel, _, rfl, ?_⟩
      rw [eqv_strs_nil]
      refine ite2 (fun hne => ?_) (fun hne => ?_)
      · have hpos : 0 < ls.length := by
          cases ls with
          | nil => cases hne
          | cons _ _ => exact Nat.succ_pos _
        refine ⟨_, fun _ _ z => z, ?_⟩
        refine ⟨_, rfl, .inl ⟨rfl, _, SqL.of h2'⟩, _, rfl, .inl ⟨rfl, _, SqL.of h1'⟩, _, rfl, _, rfl, _, _, rfl, .inl (SqL.of h1'), st, c, _, _, rfl, g'.sta, by omega, by rw [List.length_map]; omega, by rw [List.length_map]; omega, fun r o hr0 hr1 S' => ?_⟩
        rw [List.length_map] at hr1
        have g2 : Gs st c H (upd (upd H' e (.lst [])) st o) (b + (fs.length : Int) + 1) := g'.trans (Gs.of_upd S')
        have h1'' : upd (upd H' e (.lst [])) st o left = some (.lst (ls.map V.str)) := by rw [upd_ne nls]; exact h1'
        have h2'' : upd (upd H' e (.lst [])) st o fnd = some (.lst (fs.map V.str)) := by rw [upd_ne nfs]; exact h2'
        have hi : r.toNat < ls.length := by omega
        have hy : ls[r.toNat]? = some ls[r.toNat] := List.getElem?_eq_getElem hi
        refine ⟨_, _, _, r.toNat, _, rfl, rfl, h1'', by omega, by omega, ?_, by rw [List.getElem?_map, hy]; rfl, ?_⟩
        · rw [List.length_map]
          exact seqIx hr0 hr1
        · refine ⟨_, _, _, rfl, rfl, (by rw [upd_ne nlf.symm]; exact h2''), by rw [List.length_map]; exact Nat.lt_of_le_of_lt (show fs.length ≤ 64 by omega) (by decide), ?_⟩
          refine ⟨(ls.eraseIdx r.toNat).length, ?_, ls.eraseIdx r.toNat, fs ++ [ls[r.toNat]], rfl, ?_, ?_, (perm_move hy).trans hp, ?_, rfl⟩
          · rw [List.length_eraseIdx_of_lt hi]; omega
          · rw [upd_ne nlf, upd_same, map_erase]
          · rw [upd_same, List.map_append]; rfl
          · rw [List.length_append]
            refine Gs.le ((g2.set S.hc el nls).set S.hc ef nfs) (by simp; omega) (by simp; omega)
      · have hnil : ls = [] := by
          cases ls with
          | nil => rfl
          | cons _ _ => exact absurd rfl hne
        subst hnil
        exact hnx _ _ ⟨fs, rfl, h2', by rw [List.append_nil] at hp; exact hp, g'⟩
    · rintro σ' H' ⟨fs, rfl, h2, hp, g⟩
      refine ⟨_, rfl, k fnd fs H' hp (g.le (by have := hp.length_eq; omega) hb) (er_of nfs h2) ef⟩
end
end K5
set_option Elab.async false
set_option linter.all false
set_option maxRecDepth 100000
set_option maxHeartbeats 4000000
namespace K5
open PySem L2
local macro_rules | `(tactic| walk_at "rd1") => `(tactic| first
  | refine ⟨_, _, rfl, rfl, ?_⟩
  | refine ⟨_, _, _, _, rfl, rfl, SqL.of (by assumption), rfl, ?_⟩
  | refine ⟨_, _, _, _, rfl, rfl, (by assumption), rfl, ?_⟩
  | refine .inl ⟨_, rfl, ?_⟩
  | refine ⟨_, rfl, ?_⟩
  | refine ⟨(by unfold CMul; omega), ?_⟩
  | refine ⟨(by unfold CPow; omega), ?_⟩
  | refine ⟨(by (try dsimp only); omega), ?_⟩
  | refine ⟨(by unfold CDiv; omega), ?_⟩
  | fail "rd1")
local macro_rules | `(tactic| walk_at "rd") => `(tactic| repeat' (walk_at "rd1"))
section
variable {P : Program} {w : World} {K : PySem.W.Frag} {mg : Str → Option Value} {base : Heap} {A : Ad}

def pool1 : List Str := ["a", "b", "rice", "fish", "start", "done", "wish", "zz"]
def pool2 : List Str := ["station", "clocks", "abcdefgh", "meal", "go", "wait", "cloc", "on"]
def pool : List Str := ["a", "b", "rice", "fish", "start", "done", "wish", "zz", "station", "clocks", "abcdefgh", "meal", "go", "wait", "cloc", "on"]
theorem pool_nodup : pool.Nodup := by decide +kernel
theorem pool_ok : ∀ s ∈ pool, PyData.strOk s = true := by decide +kernel
def spNames (K : PySem.W.Frag) : Sp := fun vs H Q _ => ∃ (st c : Addr) (b : Int) (n : Nat), vs = [.ref st, .int n] ∧ Sta H st c b ∧ b + 64 ≤ 1000000 ∧ n ≤ 16 ∧
  ∀ (p : Addr) (ys : List Str) (H' : Hp), ys.Nodup → (∀ s ∈ ys, s ∈ pool) → ys.length = n → Gs st c H H' (b + 64) → er H' st p = some (.lst (ys.map V.str)) → er H st p = none → Q (.ref p) H'
theorem ok_names (T : Txt K mg A) : FnOk P w K mg base CX0 3 A.a__law_names A.d__law_names P__law_names (spNames K) := by
  have G__law_mix : FnOk P w K mg base CX0 2 A.a__law_mix A.d__law_mix P__law_mix (spMix K) := ok_mix T
  refine T.f__law_names.ok sc__law_names (fun vs H Q E h => ?_) (fun cdv A' outer s H vs Q E hr h => ?_)
  · obtain ⟨st, c, b, n, rfl, _⟩ := h
    rfl
  · obtain ⟨st, c, b, n, rfl, S, hb, hn, k⟩ := h
    refine ⟨_, (pss_cons (ps_set (i := 2) sc__law_names.nd rfl (Or.inl rfl) (pe_lst (pa_cons pe_str (pa_cons pe_str (pa_cons pe_str (pa_cons pe_str (pa_cons pe_str (pa_cons pe_str (pa_cons pe_str (pa_cons pe_str pa_nil))))))))))
 (pss_one (ps_ret (pe_slice sl_list (pe_call G__law_mix (hr.mono (by omega)) (by rfl) T.g__law_mix T.f__law_mix.kp T.b__law_mix .nil pass0 (pa_cons (pv 0) (pa_cons (pe_op op_cat (pv 2) (pe_lst (pa_cons pe_str (pa_cons pe_str (pa_cons pe_str (pa_cons pe_str (pa_cons pe_str (pa_cons pe_str (pa_cons pe_str (pa_cons pe_str pa_nil)))))))))) pa_nil))) po_none (po_some (pv 1)))))), ?_⟩
    refine ⟨by show 8 ≤ sizeLine; decide, fun p hp => ?_⟩
    refine ⟨_, rfl, _, rfl, by show 8 ≤ sizeLine; decide, fun q hq => ?_⟩
    have g1 : Gs st c H (upd (upd H p (.lst (pool1.map V.str))) q (.lst (pool2.map V.str))) b := ((Gs.refl S).new hp).new hq
    have h1 : upd (upd H p (.lst (pool1.map V.str))) q (.lst (pool2.map V.str)) p = some (.lst (pool1.map V.str)) := by
      rw [upd_ne (ne_of_none upd_same hq), upd_same]
    refine ⟨_, _, _, _, rfl, rfl, h1, upd_same, by show 16 ≤ sizeLine; decide, fun t ht => ?_⟩
    have nt := g1.sta.ne ht
    have g0 : Gs st c H (upd (upd (upd H p (.lst (pool1.map V.str))) q (.lst (pool2.map V.str))) t (.lst (pool1.map V.str ++ pool2.map V.str))) b := g1.new ht
    refine ⟨st, c, t, pool, b, rfl, g0.sta, hb, SqL.of (er_of nt upd_same), by decide, pool_ok, fun l ys H' hperm g hl hl0 => ?_⟩
    refine ⟨_, rfl, _, rfl, _, _, rfl, SqL.of ((er_same _ _) _ _ hl), fun d hd => ?_⟩
    have hlen : ys.length = 16 := by rw [hperm.length_eq]; rfl
    have ec : cutV (ys.map V.str) none (some (n : Int)) = (ys.take n).map V.str := by
      unfold cutV
      rw [HT.sIx_none, HT.sIx_nat, List.drop_zero, Nat.sub_zero, List.map_take, List.length_map, hlen, Nat.min_eq_left hn]
    have g3 : Gs st c H (upd H' d (.lst (cutV (ys.map V.str) none (some (n : Int))))) (b + 64) := (g0.trans g).new hd
    have hnd : ys.Nodup := hperm.nodup_iff.mpr pool_nodup
    refine k d (ys.take n) _ (hnd.sublist (List.take_sublist _ _)) (fun s hs => hperm.mem_iff.mp (List.mem_of_mem_take hs)) (by rw [List.length_take]; omega) g3 (er_of (g.sta.ne hd) ?_) ?_
    · rw [upd_same, ec]
    · have e0 := er_none (st := st) hd
      exact ((g0.trans g).same).free e0
end
end K5
set_option Elab.async false
set_option linter.all false
set_option maxRecDepth 100000
set_option maxHeartbeats 4000000
namespace K5
open PySem L2
local macro_rules | `(tactic| walk_at "rd1") => `(tactic| first
  | refine ⟨_, _, rfl, rfl, ?_⟩
  | refine ⟨_, _, _, _, rfl, rfl, SqL.of (by assumption), rfl, ?_⟩
  | refine ⟨_, _, _, _, rfl, rfl, (by assumption), rfl, ?_⟩
  | refine .inl ⟨_, rfl, ?_⟩
  | refine ⟨_, rfl, ?_⟩
  | refine ⟨(by unfold CMul; omega), ?_⟩
  | refine ⟨(by unfold CPow; omega), ?_⟩
  | refine ⟨(by (try dsimp only); omega), ?_⟩
  | refine ⟨(by unfold CDiv; omega), ?_⟩
  | fail "rd1")
local macro_rules | `(tactic| walk_at "rd") => `(tactic| repeat' (walk_at "rd1"))
section
variable {P : Program} {w : World} {K : PySem.W.Frag} {mg : Str → Option Value} {base : Heap} {A : Ad}

/-! ### data, and whether two are the same -/
def kindOf : PyData → String
  | .none => "NoneType"
  | .bool _ => "bool"
  | .int _ => "int"
  | .str _ => "str"
  | .list _ => "list"
  | .tuple _ => "tuple"
  | .dict _ => "dict"
theorem tyL {H : Hp} {a : Addr} {xs : List V} (h : SqL K H a xs) : TyX K H (.ref a) (.type "list") := by
  rcases h with (h | ⟨o, h⟩) | ⟨o, _, _, h1, h2, _⟩
  · exact .base (.lst h)
  · exact .base (.frz h)
  · exact .kList h1 h2
theorem tyT {H : Hp} {a : Addr} {xs : List V} (h : SqT K H a xs) : TyX K H (.ref a) (.type "tuple") := by
  rcases h with (h | ⟨o, h⟩) | ⟨o, _, _, h1, h2, _⟩
  · exact .base (.tup h)
  · exact .fTuple h
  · exact .kTuple h1 h2
theorem tyD {H : Hp} {v : V} {d : PyData} (h : Dp K H v d) : TyX K H v (.type (kindOf d)) := by
  cases h with
  | non => exact .base .non
  | bl b => exact .base (.bl b)
  | int i => exact .base (.int i)
  | str x => exact .base (.str x)
  | lst h _ => exact tyL h
  | tup h _ => exact tyT h
theorem kit2 {K : PySem.W.Frag} {a b c : String} {r s : Bool} (h : kitB a b = some r) (k : kitB a c = some s) : PySem.W.kitAny K (.type a) [.type b, .type c] = some (r || s) := by
  cases r with
  | true => exact kitAny_cons (kit_ty h) (fun z => nomatch z) (fun _ => rfl)
  | false => 
    refine kitAny_cons (kit_ty h) (fun _ => ?_) (fun z => nomatch z)
    cases s with
    | true => exact kitAny_cons (kit_ty k) (fun z => nomatch z) (fun _ => rfl)
    | false => exact kitAny_cons (kit_ty k) (fun _ => kitAny_nil) (fun z => nomatch z)
theorem kit3 {K : PySem.W.Frag} {a b c d : String} {r s t : Bool} (h : kitB a b = some r) (k : kitB a c = some s) (m : kitB a d = some t) : PySem.W.kitAny K (.type a) [.type b, .type c, .type d] = some (r || (s || t)) := by
  cases r with
  | true => exact kitAny_cons (kit_ty h) (fun z => nomatch z) (fun _ => rfl)
  | false =>
    have e := kit2 (K := K) k m
    rw [Bool.false_or]
    exact kitAny_cons (kit_ty h) (fun _ => e) (fun z => nomatch z)
theorem dpGet {H : Hp} : ∀ {vs : List V} {ds : List PyData} {i : Nat} {v : V}, DpAll K H vs ds → vs[i]? = some v → ∃ d, ds[i]? = some d ∧ Dp K H v d
  | _, _, 0, v, .cons a _, h => ⟨_, rfl, by rw [← Option.some.inj h]; exact a⟩
  | _, _, i + 1, v, .cons _ b, h => dpGet (i := i) b h
  | _, _, i, v, .nil, h => by simp at h
theorem dpLen {H : Hp} : ∀ {vs : List V} {ds : List PyData}, DpAll K H vs ds → vs.length = ds.length
  | _, _, .nil => rfl
  | _, _, .cons _ b => congrArg (· + 1) (dpLen b)
theorem walk_zipT {a b : Addr} {xs ys : List V} {n : Nat} (hn : n = min xs.length ys.length) : Walk (RZ.ItzT K a b) n (fun H => SqT K H a xs ∧ SqT K H b ys) (YPair (fun i => xs[i]?) (fun i => ys[i]?)) := by
  subst hn
  refine ⟨fun i H hi q => ⟨xs, ys, _, _, q.1, q.2, List.getElem?_eq_getElem (by omega), List.getElem?_eq_getElem (by omega)⟩, fun H q => ⟨xs, ys, q.1, q.2, by omega⟩, fun i H v H' hi q y => ?_⟩
  obtain ⟨T, x, z, e1, e2, e3, e4, e5⟩ := y
  exact ⟨T, x, z, e1, e2, e3, e4 _ q.1, e5 _ q.2⟩
mutual
/-- no list in it has more than a thousand things -/
def wid : PyData → Bool
  | .list xs | .tuple xs => decide (xs.length ≤ 1000) && widAll xs
  | _ => true
def widAll : List PyData → Bool
  | [] => true
  | x :: xs => wid x && widAll xs
end
theorem widAll_mem : ∀ {ds : List PyData} {d : PyData}, widAll ds = true → d ∈ ds → wid d = true
  | x :: xs, d, h, m => by
    simp only [widAll, Bool.and_eq_true] at h
    rcases List.mem_cons.mp m with e | m
    · rw [e]; exact h.1
    · exact widAll_mem h.2 m
theorem wid_parts {xs : List PyData} (h : wid (.list xs) = true ∨ wid (.tuple xs) = true) : xs.length ≤ 1000 ∧ widAll xs = true := by
  simp only [wid, Bool.and_eq_true, decide_eq_true_eq, or_self] at h
  exact h
/-- the promise of «same» for data of a depth below n -/
def spSame (K : PySem.W.Frag) (n : Nat) : Sp := fun vs H Q _ => ∃ (x y : V) (d : PyData), vs = [x, y] ∧ Dp K H x d ∧ Dp K H y d ∧ d.depth < n ∧ wid d = true ∧ ∀ H', Same H H' → Q (.bl true) H'
theorem no_fn {f : Addr} {fd : FuncData} {ps : List Str} {k : Nat} {sp : Sp} (h : ∀ vs H Q E, ¬ sp vs H Q E) : FnOk P w K mg base CX0 k f fd ps sp :=
  ⟨fun vs H Q E z => (h vs H Q E z).elim, fun _ _ _ _ _ _ _ _ _ _ _ _ _ z => (h _ _ _ _ z).elim⟩
theorem same_loop {J : It} {N n : Nat} {G : Hp → Prop} {xs ys : List V} {ds : List PyData} {H : Hp} {D : Addr} {x0 y0 : V} {Qd : Hp → Prop} (wk : Walk J N G (YPair (fun i => xs[i]?) (fun i => ys[i]?))) (hx : DpAll K H xs ds) (hy : DpAll K H ys ds)
    (hd : PyData.depthAll ds < n) (hw : widAll ds = true) (hN : N ≤ 1000) (hG : ∀ H', Same H H' → G H') (hD : H D = none) (hq : ∀ H', Same H H' → H' D = some (.lst ((List.replicate N true).map V.bl)) → Qd H') :
    ∃ W : Nat → Nat → Hp → Prop, (∃ m, W 0 m (upd H D (.lst []))) ∧ ∀ i m H, W i m H →
      (J.stop i H ∧ Qd H) ∨ (J.go i H ∧ ∃ Nx : Hp → Prop, (∀ H', Nx H' → ∃ m', m' < m ∧ W (i + 1) m' H') ∧ ∀ x H', J.yld i H x H' →
        gTup K 2 (gCons (gName 2) (gCons (gName 3) gNil)) x (wipe [some x0, some y0, none, none] [2, 3]) H' fun σ2 H2 => wipe σ2 [2, 3] = wipe [some x0, some y0, none, none] [2, 3] ∧ tYes σ2 H2 fun b H3 =>
        if b = true then (tCall (spSame K n) [] E0 (tCons (tVar 2) (tCons (tVar 3) tNil))) σ2 H3 fun y H4 => ∃ acc, H4 D = some (.lst acc) ∧ acc.length < sizeLine ∧ Nx (upd H4 D (.lst (acc ++ [y]))) else Nx H3) := by
  have same_upd : ∀ {H' : Hp} {o : HO}, Same H H' → Same H (upd H' D o) := fun s b u e => by
    rw [upd_ne (ne_of_none e hD)]; exact s _ _ e
  refine lc_it wk (fun i H' => Same H H' ∧ H' D = some (.lst ((List.replicate i true).map V.bl))) ⟨Same.new hD, upd_same⟩ (fun i H' _ p => hG H' p.1) ?_ (fun H' p => hq H' p.1 p.2)
  rintro i v H' H'' hi ⟨s1, hD'⟩ ⟨T, x, y, rfl, hT, rfl, hx', hy'⟩
  obtain ⟨d, hd1, dx⟩ := dpGet hx hx'
  obtain ⟨d', hd2, dy⟩ := dpGet hy hy'
  rw [hd1] at hd2
  cases hd2
  have hdep : d.depth < n := Nat.lt_of_le_of_lt (PyData.depth_le_depthAll ds d (List.mem_of_getElem? hd1)) hd
  have s2 := s1.trans (Same.new (o := .tup [x, y]) hT)
  refine ⟨T, [x, y], rfl, SqT.of upd_same, rfl, _, _, rfl, _, _, rfl, rfl, rfl, ?_⟩
  refine ⟨_, rfl, _, rfl, x, y, d, rfl, dpSame s2 dx, dpSame s2 dy, hdep, widAll_mem hw (List.mem_of_getElem? hd1), fun H3 s3 => ?_⟩
  have hD3 : H3 D = some (.lst ((List.replicate i true).map V.bl)) := s3 _ _ (Same.new hT _ _ hD')
  refine ⟨_, hD3, by rw [List.length_map, List.length_replicate]; exact Nat.lt_of_lt_of_le hi (Nat.le_trans hN (by decide)), same_upd (s2.trans s3), ?_⟩
  rw [upd_same, List.replicate_succ', List.map_append]
  rfl
theorem all_true (n : Nat) : (List.replicate n true).all id = true := by
  induction n with
  | zero => rfl
  | succ n ih => rw [List.replicate_succ, List.all_cons, ih]; rfl
theorem ok_same (T : Txt K mg A) : ∀ n : Nat, FnOk P w K mg base CX0 n A.a__law_same A.d__law_same P__law_same (spSame K n)
  | 0 => no_fn fun vs H Q E ⟨_, _, _, _, _, _, h, _⟩ => absurd h (Nat.not_lt_zero _)
  | n + 1 => by
    have G__law_same : FnOk P w K mg base CX0 n A.a__law_same A.d__law_same P__law_same (spSame K n) := ok_same T n
    refine T.f__law_same.ok sc__law_same (fun vs H Q E h => ?_) (fun cdv A' outer s H vs Q E hr h => ?_)
    · obtain ⟨x, y, d, rfl, _⟩ := h
      rfl
    · obtain ⟨x, y, d, rfl, hx, hy, hd, hw, k⟩ := h
      refine ⟨_, (pss_cons (ps_if (pt_val (pe_callB call_isiT (by rfl) T.isinstance (by decide +kernel) (pa_cons (pv 1) (pa_cons (pe_tup (pa_cons (pe_bltn (v := .ty "list") (u := .type "list") (by rfl) T.list (by decide +kernel) rfl) (pa_cons (pe_bltn (v := .ty "tuple") (u := .type "tuple") (by rfl) T.tuple (by decide +kernel) rfl) pa_nil))) pa_nil))))
 (pss_cons (ps_if (PW.pt (pw_or (pt_cmpR op_ne (pe_callB call_isi (by rfl) T.isinstance (by decide +kernel) (pa_cons (pv 0) (pa_cons (pe_bltn (v := .ty "list") (u := .type "list") (by rfl) T.list (by decide +kernel) rfl) pa_nil))) (pe_callB call_isi (by rfl) T.isinstance (by decide +kernel) (pa_cons (pv 1) (pa_cons (pe_bltn (v := .ty "list") (u := .type "list") (by rfl) T.list (by decide +kernel) rfl) pa_nil))) (nomark _)) (pw_or1 (pt_cmpR op_ne (pe_callB call_isi (by rfl) T.isinstance (by decide +kernel) (pa_cons (pv 0) (pa_cons (pe_bltn (v := .ty "tuple") (u := .type "tuple") (by rfl) T.tuple (by decide +kernel) rfl) pa_nil))) (pe_callB call_isi (by rfl) T.isinstance (by decide +kernel) (pa_cons (pv 1) (pa_cons (pe_bltn (v := .ty "tuple") (u := .type "tuple") (by rfl) T.tuple (by decide +kernel) rfl) pa_nil))) (nomark _)))))
 (pss_one (ps_ret pe_bl))
 pss_nil)
 (pss_one (ps_ret (pe_and (pe_cmpR op_eq (pe_callB call_len_seq (by rfl) T.len PySem.boot_len (pa_cons (pv 0) pa_nil)) (pe_callB call_len_seq (by rfl) T.len PySem.boot_len (pa_cons (pv 1) pa_nil)) (nomark _)) (pe_one (pe_callB (cr_all rfl) (by rfl) T.all (by decide +kernel) (pa_cons (pe_lc (own := [("_law_x", 2), ("_law_y", 3)]) (g := gTup K 2 (gCons (gName 2) (gCons (gName 3) gNil))) (by rfl) sc__law_same.nd (RZ.pi_zipA (by rfl) T.zip (pa_cons (pv 0) (pa_cons (pv 1) pa_nil))) (blkOk_by (N := N__law_same) (sc := defScope s__law_same) (by decide +kernel)) (fun _ _ _ _ _ => (pg_tup rfl (pgs_cons (pg_name (i := 2) sc__law_same.nd rfl (Or.inl rfl)) (pgs_cons (pg_name (i := 3) sc__law_same.nd rfl (Or.inl rfl)) pgs_nil)))) (fun _ _ _ _ _ => pts_nil) (fun _ _ _ _ _ => (pe_call G__law_same (hr.mono (by omega)) (by rfl) T.g__law_same T.f__law_same.kp T.b__law_same .nil pass0 (pa_cons (pv 2) (pa_cons (pv 3) pa_nil))))) pa_nil)))))))
 pss_nil)
 (pss_cons (ps_if (pt_val (pe_callB call_isi (by rfl) T.isinstance (by decide +kernel) (pa_cons (pv 1) (pa_cons (pe_bltn (v := .ty "int") (u := .type "int") (by rfl) T.int (by decide +kernel) rfl) pa_nil))))
 (pss_one (ps_ret (pe_and (pe_callB call_isi (by rfl) T.isinstance (by decide +kernel) (pa_cons (pv 0) (pa_cons (pe_bltn (v := .ty "int") (u := .type "int") (by rfl) T.int (by decide +kernel) rfl) pa_nil))) (pe_and (pe_cmpR op_eq (pe_callB call_isi (by rfl) T.isinstance (by decide +kernel) (pa_cons (pv 0) (pa_cons (pe_bltn (v := .ty "bool") (u := .type "bool") (by rfl) T.bool (by decide +kernel) rfl) pa_nil))) (pe_callB call_isi (by rfl) T.isinstance (by decide +kernel) (pa_cons (pv 1) (pa_cons (pe_bltn (v := .ty "bool") (u := .type "bool") (by rfl) T.bool (by decide +kernel) rfl) pa_nil))) (nomark _)) (pe_one (pe_cmpR op_eq (pv 0) (pv 1) (nomark _)))))))
 pss_nil)
 (pss_one (ps_ret (pe_and (pe_cmpR op_isBl (pe_callB call_isiT (by rfl) T.isinstance (by decide +kernel) (pa_cons (pv 0) (pa_cons (pe_tup (pa_cons (pe_bltn (v := .ty "int") (u := .type "int") (by rfl) T.int (by decide +kernel) rfl) (pa_cons (pe_bltn (v := .ty "list") (u := .type "list") (by rfl) T.list (by decide +kernel) rfl) (pa_cons (pe_bltn (v := .ty "tuple") (u := .type "tuple") (by rfl) T.tuple (by decide +kernel) rfl) pa_nil)))) pa_nil))) pe_bl (nomark _)) (pe_one (pe_cmpR op_eq (pv 0) (pv 1) (nomark _)))))))), ?_⟩
      -- isinstance(due, (list, tuple))
      refine ⟨_, rfl, by show 2 ≤ sizeLine; decide, fun p hp => ?_⟩
      have s1 : Same H (upd H p (.tup [.ty "list", .ty "tuple"])) := Same.new hp
      have hx1 := dpSame s1 hx
      have hy1 := dpSame s1 hy
      cases hx with
      | non =>
        cases hy
        refine ⟨_, p, _, _, _, false, rfl, upd_same, .cons (.ty _) (.cons (.ty _) .nil), .base .non, kit2 (a := "NoneType") (b := "list") (c := "tuple") (r := false) (s := false) (by decide +kernel) (by decide +kernel), _, rfl, iteF ?_⟩
        refine ⟨_, rfl, _, _, .type "NoneType", _, false, rfl, .ty _, .base .non, kit_ty (by decide +kernel), _, rfl, iteF ?_⟩
        refine ⟨_, rfl, by show 3 ≤ sizeLine; decide, fun q hq => ⟨_, q, _, _, _, false, rfl, upd_same, .cons (.ty _) (.cons (.ty _) (.cons (.ty _) .nil)), .base .non, kit3 (a := "NoneType") (b := "int") (c := "list") (d := "tuple") (r := false) (s := false) (t := false) (by decide +kernel) (by decide +kernel) (by decide +kernel), _, _, rfl, rfl, _, rfl, iteT ⟨_, rfl, _, rfl, rfl, ?_⟩⟩⟩
        exact k _ (s1.trans (Same.new hq))
      | str z =>
        cases hy
        refine ⟨_, p, _, _, _, false, rfl, upd_same, .cons (.ty _) (.cons (.ty _) .nil), .base (.str _), kit2 (a := "str") (b := "list") (c := "tuple") (r := false) (s := false) (by decide +kernel) (by decide +kernel), _, rfl, iteF ?_⟩
        refine ⟨_, rfl, _, _, .type "str", _, false, rfl, .ty _, .base (.str _), kit_ty (by decide +kernel), _, rfl, iteF ?_⟩
        refine ⟨_, rfl, by show 3 ≤ sizeLine; decide, fun q hq => ⟨_, q, _, _, _, false, rfl, upd_same, .cons (.ty _) (.cons (.ty _) (.cons (.ty _) .nil)), .base (.str _), kit3 (a := "str") (b := "int") (c := "list") (d := "tuple") (r := false) (s := false) (t := false) (by decide +kernel) (by decide +kernel) (by decide +kernel), _, _, rfl, rfl, _, rfl, iteT ⟨_, rfl, _, rfl, rfl, ?_⟩⟩⟩
        rw [decide_eq_true rfl]
        exact k _ (s1.trans (Same.new hq))
      | int i =>
        cases hy
        refine ⟨_, p, _, _, _, false, rfl, upd_same, .cons (.ty _) (.cons (.ty _) .nil), .base (.int _), kit2 (a := "int") (b := "list") (c := "tuple") (r := false) (s := false) (by decide +kernel) (by decide +kernel), _, rfl, iteF ?_⟩
        refine ⟨_, rfl, _, _, .type "int", _, true, rfl, .ty _, .base (.int _), kit_ty (by decide +kernel), _, rfl, iteT ?_⟩
        refine ⟨_, rfl, _, _, .type "int", _, true, rfl, .ty _, .base (.int _), kit_ty (by decide +kernel), _, rfl, iteT ?_⟩
        refine ⟨_, rfl, _, _, .type "int", _, false, rfl, .ty _, .base (.int _), kit_ty (by decide +kernel), _, rfl, _, _, .type "int", _, false, rfl, .ty _, .base (.int _), kit_ty (by decide +kernel), rfl, _, rfl, iteT ⟨_, rfl, _, rfl, rfl, ?_⟩⟩
        rw [decide_eq_true rfl]
        exact k _ s1
      | bl b =>
        cases hy
        refine ⟨_, p, _, _, _, false, rfl, upd_same, .cons (.ty _) (.cons (.ty _) .nil), .base (.bl _), kit2 (a := "bool") (b := "list") (c := "tuple") (r := false) (s := false) (by decide +kernel) (by decide +kernel), _, rfl, iteF ?_⟩
        refine ⟨_, rfl, _, _, .type "bool", _, true, rfl, .ty _, .base (.bl _), kit_ty (by decide +kernel), _, rfl, iteT ?_⟩
        refine ⟨_, rfl, _, _, .type "bool", _, true, rfl, .ty _, .base (.bl _), kit_ty (by decide +kernel), _, rfl, iteT ?_⟩
        refine ⟨_, rfl, _, _, .type "bool", _, true, rfl, .ty _, .base (.bl _), kit_ty (by decide +kernel), _, rfl, _, _, .type "bool", _, true, rfl, .ty _, .base (.bl _), kit_ty (by decide +kernel), rfl, _, rfl, iteT ⟨_, rfl, _, rfl, rfl, ?_⟩⟩
        rw [decide_eq_true rfl]
        exact k _ s1
      | lst hL hA =>
        cases hy with
        | lst hL2 hA2 =>
          obtain ⟨w1, w2⟩ := wid_parts (.inl hw)
          have l1 := dpLen hA
          have l2 := dpLen hA2
          have t1 := tyL (sqUp hL s1)
          have t2 := tyL (sqUp hL2 s1)
          refine ⟨_, p, _, _, _, true, rfl, upd_same, .cons (.ty _) (.cons (.ty _) .nil), t2, kit2 (a := "list") (b := "list") (c := "tuple") (r := true) (s := false) (by decide +kernel) (by decide +kernel), _, rfl, iteT ?_⟩
          refine ⟨_, rfl, _, _, .type "list", _, true, rfl, .ty _, t1, kit_ty (by decide +kernel), _, rfl, _, _, .type "list", _, true, rfl, .ty _, t2, kit_ty (by decide +kernel), rfl, _, rfl, iteF ?_⟩
          refine ⟨_, rfl, _, _, .type "list", _, false, rfl, .ty _, t1, kit_ty (by decide +kernel), _, rfl, _, _, .type "list", _, false, rfl, .ty _, t2, kit_ty (by decide +kernel), rfl, _, rfl, iteF ?_⟩
          refine ⟨_, rfl, _, _, rfl, .inl (sqUp hL s1), _, rfl, _, _, rfl, .inl (sqUp hL2 s1), rfl, true, ?_, iteT ?_⟩
          · rw [decide_eq_true (by rw [l1, l2])]
          · refine ⟨_, rfl, _, rfl, _, _, _, _, rfl, .inl ⟨sqUp hL s1, sqUp hL2 s1, fun D hD => same_loop (walk_zip rfl) (dpAllSame s1 hA) (dpAllSame s1 hA2) (by simp only [PyData.depth] at hd; omega) w2 (by omega) (fun H' s' => ⟨sqUp hL (s1.trans s'), sqUp hL2 (s1.trans s')⟩) hD (fun H' s' hD' => ?_)⟩⟩
            refine ⟨D, _, rfl, SqL.of hD', ?_⟩
            rw [all_true]
            exact k _ (s1.trans s')
      | tup hL hA =>
        cases hy with
        | tup hL2 hA2 =>
          obtain ⟨w1, w2⟩ := wid_parts (.inr hw)
          have l1 := dpLen hA
          have l2 := dpLen hA2
          have t1 := tyT (stUp hL s1)
          have t2 := tyT (stUp hL2 s1)
          refine ⟨_, p, _, _, _, true, rfl, upd_same, .cons (.ty _) (.cons (.ty _) .nil), t2, kit2 (a := "tuple") (b := "list") (c := "tuple") (r := false) (s := true) (by decide +kernel) (by decide +kernel), _, rfl, iteT ?_⟩
          refine ⟨_, rfl, _, _, .type "tuple", _, false, rfl, .ty _, t1, kit_ty (by decide +kernel), _, rfl, _, _, .type "tuple", _, false, rfl, .ty _, t2, kit_ty (by decide +kernel), rfl, _, rfl, iteF ?_⟩
          refine ⟨_, rfl, _, _, .type "tuple", _, true, rfl, .ty _, t1, kit_ty (by decide +kernel), _, rfl, _, _, .type "tuple", _, true, rfl, .ty _, t2, kit_ty (by decide +kernel), rfl, _, rfl, iteF ?_⟩
          refine ⟨_, rfl, _, _, rfl, .inr (stUp hL s1), _, rfl, _, _, rfl, .inr (stUp hL2 s1), rfl, true, ?_, iteT ?_⟩
          · rw [decide_eq_true (by rw [l1, l2])]
          · refine ⟨_, rfl, _, rfl, _, _, _, _, rfl, .inr ⟨stUp hL s1, stUp hL2 s1, fun D hD => same_loop (walk_zipT rfl) (dpAllSame s1 hA) (dpAllSame s1 hA2) (by simp only [PyData.depth] at hd; omega) w2 (by omega) (fun H' s' => ⟨stUp hL (s1.trans s'), stUp hL2 (s1.trans s')⟩) hD (fun H' s' hD' => ?_)⟩⟩
            refine ⟨D, _, rfl, SqL.of hD', ?_⟩
            rw [all_true]
            exact k _ (s1.trans s')
end
end K5
set_option Elab.async false
set_option linter.all false
set_option maxRecDepth 100000
set_option maxHeartbeats 4000000
namespace K5
open PySem L2
local macro_rules | `(tactic| walk_at "rd1") => `(tactic| first
  | refine ⟨_, _, rfl, rfl, ?_⟩
  | refine ⟨_, _, _, _, rfl, rfl, SqL.of (by assumption), rfl, ?_⟩
  | refine ⟨_, _, _, _, rfl, rfl, (by assumption), rfl, ?_⟩
  | refine .inl ⟨_, rfl, ?_⟩
  | refine ⟨_, rfl, ?_⟩
  | refine ⟨(by unfold CMul; omega), ?_⟩
  | refine ⟨(by unfold CPow; omega), ?_⟩
  | refine ⟨(by (try dsimp only); omega), ?_⟩
  | refine ⟨(by unfold CDiv; omega), ?_⟩
  | fail "rd1")
local macro_rules | `(tactic| walk_at "rd") => `(tactic| repeat' (walk_at "rd1"))
section
variable {P : Program} {w : World} {K : PySem.W.Frag} {mg : Str → Option Value} {base : Heap} {A : Ad}

/-! ### ascending names -/
def slt (x y : Str) : Prop := x.cps.toList < y.cps.toList
instance (x y : Str) : Decidable (slt x y) := inferInstanceAs (Decidable (x.cps.toList < y.cps.toList))
def sle (x y : Str) : Prop := ¬ slt y x
instance (x y : Str) : Decidable (sle x y) := inferInstanceAs (Decidable (¬ slt y x))
theorem sle_trans {x y z : Str} (a : sle x y) (b : sle y z) : sle x z :=
  fun h => (List.not_lt.mpr (List.le_trans (List.not_lt.mp a) (List.not_lt.mp b))) h
theorem sle_of_lt {x y : Str} (h : slt x y) : sle x y := fun k => List.lt_asymm h k
def rk (t : Str) (acc : List Str) : Nat := (acc.filter fun x => decide (sle x t)).length
theorem rk_le (t : Str) (acc : List Str) : rk t acc ≤ acc.length := List.length_filter_le _ _
theorem rise_perm (t : Str) (acc : List Str) (k : Nat) : (acc.take k ++ [t] ++ acc.drop k).Perm (acc ++ [t]) := by
  have h : (acc.take k ++ [t] ++ acc.drop k).Perm (acc.take k ++ acc.drop k ++ [t]) := by
    rw [List.append_assoc, List.append_assoc]
    exact List.Perm.append_left _ List.perm_append_comm
  rwa [List.take_append_drop] at h
theorem rk_zero {t : Str} : ∀ {acc : List Str}, (∀ x ∈ acc, slt t x) → rk t acc = 0
  | [], _ => rfl
  | x :: r, h => by
    have hx : decide (sle x t) = false := decide_eq_false fun k => k (h x (List.mem_cons_self ..))
    have e := rk_zero fun y hy => h y (List.mem_cons_of_mem _ hy)
    simp only [rk, List.filter_cons, hx] at e ⊢
    exact e
theorem rise_sorted (t : Str) : ∀ {acc : List Str}, acc.Pairwise sle → (acc.take (rk t acc) ++ [t] ++ acc.drop (rk t acc)).Pairwise sle
  | [], _ => by simp [rk]
  | x :: r, h => by
    rw [List.pairwise_cons] at h
    by_cases hx : sle x t
    · have e : rk t (x :: r) = rk t r + 1 := by
        simp only [rk, List.filter_cons, decide_eq_true hx, if_true, List.length_cons]
      rw [e, List.take_succ_cons, List.drop_succ_cons, List.cons_append, List.cons_append, List.pairwise_cons]
      refine ⟨fun y hy => ?_, rise_sorted t h.2⟩
      rcases List.mem_append.mp hy with hy | hy
      · rcases List.mem_append.mp hy with hy | hy
        · exact h.1 y (List.mem_of_mem_take hy)
        · rw [List.mem_singleton.mp hy]; exact hx
      · exact h.1 y (List.mem_of_mem_drop hy)
    · have lt : slt t x := Decidable.byContradiction fun k => hx k
      have e : rk t (x :: r) = 0 := rk_zero fun y hy => by
        rcases List.mem_cons.mp hy with q | q
        · rw [q]; exact lt
        · have := h.1 y q
          exact Decidable.byContradiction fun k => (sle_trans this k) lt
      rw [e, List.take_zero, List.drop_zero, List.nil_append, List.singleton_append, List.pairwise_cons]
      refine ⟨fun y hy => ?_, List.pairwise_cons.mpr h⟩
      rcases List.mem_cons.mp hy with q | q
      · rw [q]; exact sle_of_lt lt
      · exact sle_trans (sle_of_lt lt) (h.1 y q)
theorem str_at {ns : List Str} {i : Nat} {x : V} (h : (ns.map V.str)[i]? = some x) : ∃ hi : i < ns.length, x = V.str ns[i] := by
  have hi : i < ns.length := by
    have := (List.getElem?_eq_some_iff.mp h).1
    rwa [List.length_map] at this
  refine ⟨hi, ?_⟩
  rw [List.getElem?_map, List.getElem?_eq_getElem hi] at h
  exact (Option.some.inj h).symm
theorem take_map {α β : Type} (f : α → β) {xs : List α} {i : Nat} (hi : i < xs.length) : (xs.take (i + 1)).map f = (xs.take i).map f ++ [f xs[i]] := by
  rw [List.take_succ, List.getElem?_eq_getElem hi, List.map_append]; rfl
def spRising (K : PySem.W.Frag) : Sp := fun vs H Q _ => ∃ (t : Addr) (ss : List Str), vs = [.ref t] ∧ SqL K H t (ss.map V.str) ∧ ss.length ≤ 64 ∧
  ∀ (p : Addr) (ys : List Str) (H' : Hp), ys.Perm ss → ys.Pairwise sle → H p = none → Same H H' → H' p = some (.lst (ys.map V.str)) → Q (.ref p) H'
theorem ok_rising (T : Txt K mg A) : FnOk P w K mg base CX0 1 A.a__law_rising A.d__law_rising P__law_rising (spRising K) := by
  refine T.f__law_rising.ok sc__law_rising (fun vs H Q E h => ?_) (fun cdv A' outer s H vs Q E hr h => ?_)
  · obtain ⟨t, ss, rfl, _⟩ := h
    rfl
  · obtain ⟨t, ss, rfl, hS, hl, k⟩ := h
    refine ⟨_, (pss_cons (ps_set (i := 1) sc__law_rising.nd rfl (Or.inl rfl) (pe_lst pa_nil))
 (pss_cons (ps_for PassesOwn.never rfl (pi_list (pv 0)) (pg_name (i := 2) sc__law_rising.nd rfl (Or.inr rfl))
 (pss_one (ps_expr (pe_bm PySem.F.plainAttrs_list PySem.F.slot_list_insert PySem.F.type_list_insert mt_insert (pv 1) (pa_cons (pe_callB call_len_seq (by rfl) T.len PySem.boot_len (pa_cons (pe_lc (own := [("_law_x", 3)]) (g := gName 3) (by rfl) sc__law_rising.nd (pi_list (pv 1)) (blkOk_by (N := N__law_rising) (sc := defScope s__law_rising) (by decide +kernel)) (fun _ _ _ _ _ => pg_name (i := 3) sc__law_rising.nd rfl (Or.inl rfl)) (fun _ _ _ _ _ => pts_one (pt_cmpR op_le_str (pv 3) (pv 2) (nomark _))) (fun _ _ _ _ _ => (pv 3))) pa_nil)) (pa_cons (pv 2) pa_nil))))))
 (pss_one (ps_ret (pv 1))))), ?_⟩
    have same_at : ∀ {p : Addr} {H' : Hp} {o : HO}, H p = none → Same H H' → Same H (upd H' p o) := fun hp s b u e => by
      rw [upd_ne (ne_of_none e hp)]; exact s _ _ e
    refine ⟨Nat.zero_le _, fun p hp => ?_⟩
    refine ⟨_, rfl, t, rfl, ⟨_, sqUp hS (Same.new hp)⟩, for_it (walk_list (K := K) (a := t)) (fun i σ' H' => ∃ x acc, σ' = [some (.ref t), some (.ref p), x, none] ∧ Same H H' ∧ H' p = some (.lst (acc.map V.str)) ∧ acc.Perm (ss.take i) ∧ acc.Pairwise sle)
      ⟨_, [], rfl, Same.new hp, upd_same, List.Perm.refl _, .nil⟩ (fun i σ' H' _ z => sqUp hS z.choose_spec.choose_spec.2.1) ?_ ?_⟩
    · rintro i v σ' H' H'' hi ⟨x, acc, rfl, s1, hacc, hperm, hsort⟩ ⟨rfl, hx⟩
      obtain ⟨hi, rfl⟩ := str_at hx
      have hal : acc.length ≤ 64 := by rw [hperm.length_eq, List.length_take]; omega
      refine ⟨_, rfl, .inl ⟨rfl, _, SqL.of hacc⟩, _, rfl, p, rfl, ⟨_, SqL.of hacc⟩, fun D hD => lc_it (walk_list (K := K) (a := p)) (fun j H3 => Same H'' H3 ∧ H3 D = some (.lst (((acc.take j).filter fun x => decide (sle x ss[i])).map V.str))) ⟨Same.new hD, upd_same⟩ (fun j H3 _ z => SqL.of (z.1 _ _ hacc)) ?_ (fun H3 z => ?_)⟩
      · rintro j y H3 H4 hj ⟨s3, hD3⟩ ⟨rfl, hy⟩
        obtain ⟨hj, rfl⟩ := str_at hy
        have et : (acc.take (j + 1)).filter (fun x => decide (sle x ss[i])) = (acc.take j).filter (fun x => decide (sle x ss[i])) ++ (if sle acc[j] ss[i] then [acc[j]] else []) := by
          rw [List.take_succ, List.getElem?_eq_getElem hj, List.filter_append]
          congr 1
          by_cases e : sle acc[j] ss[i] <;> simp [e]
        have hfl : (((acc.take j).filter fun x => decide (sle x ss[i])).map V.str).length ≤ 64 := by
          rw [List.length_map]
          refine Nat.le_trans (List.length_filter_le _ _) (by rw [List.length_take]; omega)
        refine ⟨rfl, _, rfl, _, rfl, _, _, rfl, rfl, _, rfl, ite2 (fun q => ?_) (fun q => ?_)⟩
        · have e : sle acc[j] ss[i] := fun z => by
            rw [decide_eq_true (show ss[i].cps.toList < acc[j].cps.toList from z)] at q
            cases q
          refine ⟨_, rfl, _, hD3, Nat.lt_of_le_of_lt hfl (by decide), ?_, ?_⟩
          · exact fun b u e => by rw [upd_ne (ne_of_none e hD)]; exact s3 _ _ e
          · rw [upd_same, et, if_pos e, List.map_append]; rfl
        · have e : ¬ sle acc[j] ss[i] := fun z => q (by rw [decide_eq_false (show ¬ ss[i].cps.toList < acc[j].cps.toList from z)]; rfl)
          exact ⟨s3, by rw [et, if_neg e, List.append_nil]; exact hD3⟩
      · obtain ⟨s3, hD3⟩ := z
        rw [List.length_map, List.take_length] at hD3
        have hk := rk_le ss[i] acc
        have ek : (((acc.filter fun x => decide (sle x ss[i])).map V.str).length : Int) = ((rk ss[i] acc : Nat) : Int) := by rw [List.length_map]; rfl
        refine ⟨D, _, rfl, .inl (SqL.of hD3), _, rfl, p, acc.map V.str, _, _, rfl, rfl, s3 _ _ hacc, by rw [List.length_map]; exact Nat.lt_of_le_of_lt hal (by decide), by omega, by omega, ?_⟩
        rw [ek, Int.toNat_natCast]
        refine ⟨_, acc.take (rk ss[i] acc) ++ [ss[i]] ++ acc.drop (rk ss[i] acc), rfl, same_at hp (s1.trans s3), ?_, ?_, rise_sorted ss[i] hsort⟩
        · rw [upd_same, List.map_append, List.map_append, List.map_take, List.map_drop]; rfl
        · rw [List.take_succ, List.getElem?_eq_getElem hi]
          exact (rise_perm _ _ _).trans (hperm.append_right _)
    · rintro σ' H' ⟨x, acc, rfl, s1, hacc, hperm, hsort⟩
      rw [List.length_map, List.take_length] at hperm
      exact ⟨_, rfl, k p acc H' hperm hsort hp s1 hacc⟩
end
end K5
set_option Elab.async false
set_option linter.all false
set_option maxRecDepth 100000
set_option maxHeartbeats 4000000
namespace K5
open PySem L2
local macro_rules | `(tactic| walk_at "rd1") => `(tactic| first
  | refine ⟨_, _, rfl, rfl, ?_⟩
  | refine ⟨_, _, _, _, rfl, rfl, SqL.of (by assumption), rfl, ?_⟩
  | refine ⟨_, _, _, _, rfl, rfl, (by assumption), rfl, ?_⟩
  | refine .inl ⟨_, rfl, ?_⟩
  | refine ⟨_, rfl, ?_⟩
  | refine ⟨(by unfold CMul; omega), ?_⟩
  | refine ⟨(by unfold CPow; omega), ?_⟩
  | refine ⟨(by (try dsimp only); omega), ?_⟩
  | refine ⟨(by unfold CDiv; omega), ?_⟩
  | fail "rd1")
local macro_rules | `(tactic| walk_at "rd") => `(tactic| repeat' (walk_at "rd1"))
section
variable {P : Program} {w : World} {K : PySem.W.Frag} {mg : Str → Option Value} {base : Heap} {A : Ad}

theorem put_new : ∀ (acc : List (Key × V)) (k : Key) (v : V), k ∉ acc.map (·.1) → putK acc k v = acc ++ [(k, v)] := fun acc k v h => by
  unfold putK
  have e : (acc.any fun kv => decide (kv.1 = k)) = false := by
    rw [List.any_eq_false]
    intro p hp q
    exact h (List.mem_map.mpr ⟨p, hp, of_decide_eq_true q⟩)
  rw [e]
  rfl
theorem not_in_take {ys : List Str} (h : ys.Nodup) {i : Nat} (hi : i < ys.length) : ys[i] ∉ ys.take i := by
  have e : ys.take (i + 1) = ys.take i ++ [ys[i]] := by rw [List.take_succ, List.getElem?_eq_getElem hi]; rfl
  have n : (ys.take i ++ [ys[i]]).Nodup := by rw [← e]; exact h.sublist (List.take_sublist _ _)
  rw [List.nodup_append] at n
  exact fun m => n.2.2 _ m _ (List.mem_singleton.mpr rfl) rfl
def spWith : Sp := fun vs H Q _ => ∃ (d : Addr) (k : Key) (v : V) (kvs : List (Key × V)), vs = [.ref d, kV k, v] ∧ Rd H d (.dK kvs) ∧ kvs.length ≤ 1000 ∧
  ∀ (p : Addr) (H' : Hp), H p = none → Same H H' → H' p = some (.dK (putK kvs k v)) → Q (.ref p) H'
theorem ok_with (T : Txt K mg A) : FnOk P w K mg base CX0 1 A.a__law_with A.d__law_with P__law_with spWith := by
  refine T.f__law_with.ok sc__law_with (fun vs H Q E h => ?_) (fun cdv A' outer s H vs Q E hr h => ?_)
  · obtain ⟨d, k, v, kvs, rfl, _⟩ := h
    rfl
  · obtain ⟨d, key, v, kvs, rfl, hd, hl, k⟩ := h
    refine ⟨_, (pss_cons (ps_set (i := 3) sc__law_with.nd rfl (Or.inl rfl) (pe_callTy call_dictD (by rfl) T.dict (by decide +kernel) (pa_cons (pv 0) pa_nil)))
 (pss_cons (ps_dput (hu_of hr) (pv 3) (pv 1) (pv 2) rfl)
 (pss_one (ps_ret (pv 3))))), ?_⟩
    refine ⟨_, rfl, d, kvs, rfl, hd, fun p hp => ?_⟩
    refine ⟨_, rfl, _, rfl, _, rfl, p, _, rfl, .inl ⟨kvs, key, upd_same, rfl, Nat.lt_of_le_of_lt hl (by decide), rfl⟩, _, rfl, k p _ hp ?_ upd_same⟩
    exact fun b u e => by rw [upd_ne (ne_of_none e hp), upd_ne (ne_of_none e hp)]; exact e
/-! ### rows: what each name hangs on -/
abbrev Rows := List (Str × Str)
def kvR (rows : Rows) : List (Key × V) := rows.map fun r => (.inr r.1, .str r.2)
def ksR (rows : Rows) : List Str := rows.map (·.1)
/-- each hangs on the clock or on one ahead of it -/
def Tree (rows : Rows) : Prop := ∀ (i : Nat) (k h : Str), rows[i]? = some (k, h) → h = "clock" ∨ h ∈ ksR (rows.take i)
theorem kvR_keys (rows : Rows) : (kvR rows).map (·.1) = (ksR rows).map Sum.inr := by simp [kvR, ksR]
theorem kvR_len (rows : Rows) : (kvR rows).length = rows.length := by simp [kvR]
theorem kvR_app (rows : Rows) (k h : Str) : kvR (rows ++ [(k, h)]) = kvR rows ++ [(.inr k, .str h)] := by simp [kvR]
theorem ksR_app (rows : Rows) (k h : Str) : ksR (rows ++ [(k, h)]) = ksR rows ++ [k] := by simp [ksR]
theorem Tree.nil : Tree [] := fun i k h e => by simp at e
theorem Tree.app {rows : Rows} {k h : Str} (t : Tree rows) (hh : h = "clock" ∨ h ∈ ksR rows) : Tree (rows ++ [(k, h)]) := fun i k' h' e => by
  rcases Nat.lt_or_ge i rows.length with lt | ge
  · rw [List.getElem?_append_left lt] at e
    rw [List.take_append_of_le_length (Nat.le_of_lt lt)]
    exact t i k' h' e
  · rw [List.getElem?_append_right ge] at e
    have e0 : i - rows.length = 0 := by
      rcases Nat.eq_zero_or_pos (i - rows.length) with z | z
      · exact z
      · rw [List.getElem?_eq_none (by simp; omega)] at e; cases e
    rw [e0] at e
    cases e
    have : i = rows.length := by omega
    subst this
    rw [List.take_append_of_le_length (Nat.le_refl _), List.take_length]
    exact hh
def spHung (K : PySem.W.Frag) : Sp := fun vs H Q _ => ∃ (st c t : Addr) (ns : List Str) (b : Int), vs = [.ref st, .ref t] ∧ Sta H st c b ∧ b + 130 ≤ 1000000 ∧ SqL K (er H st) t (ns.map V.str) ∧ ns.length ≤ 64 ∧ ns.Nodup ∧ (∀ s ∈ ns, PyData.strOk s = true) ∧
  ∀ (p : Addr) (rows : Rows) (H' : Hp), (ksR rows).Perm ns → Tree rows → Gs st c H H' (b + 130) → er H' st p = some (.dK (kvR rows)) → er H st p = none → Q (.ref p) H'
theorem ok_hung (T : Txt K mg A) : FnOk P w K mg base CX0 3 A.a__law_hung A.d__law_hung P__law_hung (spHung K) := by
  have G__law_mix : FnOk P w K mg base CX0 2 A.a__law_mix A.d__law_mix P__law_mix (spMix K) := ok_mix T
  have G__law_one : FnOk P w K mg base CX0 2 A.a__law_one A.d__law_one P__law_one (spOne K) := ok_one T
  refine T.f__law_hung.ok sc__law_hung (fun vs H Q E h => ?_) (fun cdv A' outer s H vs Q E hr h => ?_)
  · obtain ⟨st, c, t, ns, b, rfl, _⟩ := h
    rfl
  · obtain ⟨st, c, t, ns, b, rfl, S, hb, hS, hl, hnd, hok, k⟩ := h
    refine ⟨_, (pss_cons (ps_par (i := 2) (j := 3) (by rfl) sc__law_hung.nd rfl rfl (by decide) rfl rfl (pa_cons (pe_call G__law_mix (hr.mono (by omega)) (by rfl) T.g__law_mix T.f__law_mix.kp T.b__law_mix .nil pass0 (pa_cons (pv 0) (pa_cons (pv 1) pa_nil))) (pa_cons pe_dnewK pa_nil)) (by rfl))
 (pss_cons (ps_for PassesOwn.never rfl (pi_enum (by rfl) T.enumerate (pa_cons (pv 2) pa_nil)) (pg_tup (by rfl) (pgs_cons (pg_name (i := 4) sc__law_hung.nd rfl (Or.inl rfl)) (pgs_cons (pg_name (i := 5) sc__law_hung.nd rfl (Or.inl rfl)) pgs_nil)))
 (pss_one (ps_dput (hu_of hr) (pv 3) (pv 5) (pe_call G__law_one (hr.mono (by omega)) (by rfl) T.g__law_one T.f__law_one.kp T.b__law_one .nil pass0 (pa_cons (pv 0) (pa_cons (pe_op op_cat (pe_lst (pa_cons pe_str pa_nil)) (pe_slice sl_list (pv 2) po_none (po_some (pv 4)))) pa_nil))) rfl)))
 (pss_one (ps_ret (pv 3))))), ?_⟩
    refine ⟨_, rfl, _, rfl, st, c, t, ns, b, rfl, S, by omega, hS, hl, hok, fun q ys H1 hperm g1 hq hq0 => fun p hp => ⟨_, _, rfl, ?_⟩⟩
    have yN : ys.Nodup := hperm.nodup_iff.mpr hnd
    have yl : ys.length ≤ 64 := by rw [hperm.length_eq]; exact hl
    have mp := g1.sta.ne hp
    have ep : er H st p = none := g1.same.free (er_none hp)
    have g2 := g1.new hp (o := .dK [])
    have npq : p ≠ q := (ne_of_none ((er_same _ _) _ _ hq) hp).symm
    have hq2 := er_mono (st := st) (Same.new (o := .dK []) hp) _ _ hq
    have hp2 : er (upd H1 p (.dK [])) st p = some (.dK []) := er_of mp upd_same
    generalize upd H1 p (.dK []) = H2 at g2 hq2 hp2 ⊢
    refine ⟨_, rfl, q, _, rfl, SqL.of ((er_same _ _) _ _ hq2), for_it walk_enum (fun i σ' H' => ∃ x y rows, σ' = [some (.ref st), some (.ref t), some (.ref q), some (.ref p), x, y] ∧ Gs st c H H' (b + 64 + (i : Int)) ∧ er H' st q = some (.lst (ys.map V.str)) ∧ er H' st p = some (.dK (kvR rows)) ∧ ksR rows = ys.take i ∧ Tree rows)
      ⟨_, _, [], rfl, by simpa using g2, hq2, hp2, rfl, Tree.nil⟩ (fun i σ' H' _ z => SqL.of ((er_same _ _) _ _ z.choose_spec.choose_spec.choose_spec.2.2.1)) ?_ ?_⟩
    · rintro i x σ' H' H'' hi ⟨_, _, rows, rfl, g, hq3, hp3, hks, hT⟩ ⟨Tt, u, v, rfl, hTt, rfl, hu, hv⟩
      have eu : u = .int (i : Nat) := (Option.some.inj hu).symm
      subst eu
      obtain ⟨hi, rfl⟩ := str_at hv
      have g3 := g.new hTt (o := .tup [.int (i : Nat), .str ys[i]])
      have s3 : Same (er H' st) (er (upd H' Tt (.tup [.int (i : Nat), .str ys[i]])) st) := er_mono (Same.new hTt)
      refine ⟨Tt, _, rfl, SqT.of upd_same, rfl, _, _, rfl, _, _, rfl, rfl, ?_⟩
      have hq3 := s3 _ _ hq3
      have hp3 := s3 _ _ hp3
      generalize upd H' Tt (.tup [.int (i : Nat), .str ys[i]]) = H3 at g3 hq3 hp3 ⊢
      refine ⟨_, rfl, by show 1 ≤ sizeLine; decide, fun e he => ⟨_, rfl, _, rfl, _, rfl, _, _, rfl, SqL.of (Same.new he _ _ ((er_same _ _) _ _ hq3)), fun d hd => ?_⟩⟩
      have ec : cutV (ys.map V.str) none (some ((i : Nat) : Int)) = (ys.take i).map V.str := by
        unfold cutV
        rw [HT.sIx_none, HT.sIx_nat, List.drop_zero, Nat.sub_zero, List.map_take, List.length_map, Nat.min_eq_left (Nat.le_of_lt hi)]
      rw [ec]
      have g4 := (g3.new he (o := .lst [.str "clock"])).new hd (o := .lst ((ys.take i).map V.str))
      have h1 : upd (upd H3 e (.lst [.str "clock"])) d (.lst ((ys.take i).map V.str)) e = some (.lst [.str "clock"]) := by rw [upd_ne (ne_of_none upd_same hd), upd_same]
      have s4 : Same (er H3 st) (er (upd (upd H3 e (.lst [.str "clock"])) d (.lst ((ys.take i).map V.str))) st) := (er_mono (Same.new he)).trans (er_mono (Same.new hd))
      have h2 : upd (upd H3 e (.lst [.str "clock"])) d (.lst ((ys.take i).map V.str)) d = some (.lst ((ys.take i).map V.str)) := upd_same
      generalize upd (upd H3 e (.lst [.str "clock"])) d (.lst ((ys.take i).map V.str)) = H4 at g4 h1 h2 s4 ⊢
      have hil : (ys.take i).length ≤ 64 := by rw [List.length_take]; omega
      refine ⟨_, _, _, _, rfl, rfl, h1, h2, by show _ ≤ sizeLine; rw [List.length_map, List.length_singleton]; exact Nat.le_trans (show 1 + (ys.take i).length ≤ 65 by omega) (by decide), fun l hl => ?_⟩
      have ml := g4.sta.ne hl
      have g5 := g4.new hl (o := .lst ([.str "clock"] ++ (ys.take i).map V.str))
      have s5 := s4.trans (er_mono (st := st) (Same.new (o := .lst ([.str "clock"] ++ (ys.take i).map V.str)) hl))
      refine ⟨st, c, l, _, _, rfl, g5.sta, by omega, SqL.of (er_of ml upd_same), by simp, by simp; omega, fun j v H5 hv g6 => ?_⟩
      obtain ⟨h, rfl, hh⟩ : ∃ h : Str, v = V.str h ∧ (h = "clock" ∨ h ∈ ys.take i) := by
        have hm := List.mem_of_getElem? hv
        rcases List.mem_append.mp hm with z | z
        · exact ⟨_, List.mem_singleton.mp z, .inl rfl⟩
        · obtain ⟨h, hh, e⟩ := List.mem_map.mp z
          exact ⟨h, e.symm, .inr hh⟩
      have s6 := s5.trans g6.same
      have hp6 := s6 _ _ hp3
      have hq6 := s6 _ _ hq3
      have g7 := (g5.trans g6)
      have kl : rows.length = i := by
        have := congrArg List.length hks
        rw [ksR, List.length_map, List.length_take] at this
        omega
      have hk : (Sum.inr ys[i] : Key) ∉ (kvR rows).map (·.1) := by
        rw [kvR_keys, hks]
        intro m
        obtain ⟨z, hz, ez⟩ := List.mem_map.mp m
        exact not_in_take yN hi (by rw [← Sum.inr.inj ez]; exact hz)
      refine ⟨_, rfl, _, rfl, p, _, rfl, .inl ⟨kvR rows, .inr ys[i], (er_same _ _) _ _ hp6, rfl, by rw [kvR_len, kl]; exact Nat.lt_of_lt_of_le (show i < 65 by omega) (by decide), rfl⟩, ?_⟩
      rw [put_new _ _ _ hk, ← kvR_app]
      refine ⟨_, _, rows ++ [(ys[i], h)], rfl, (g7.le (by omega) (by omega)).set S.hc ep mp, ?_, ?_, ?_, hT.app (by rw [hks]; exact hh)⟩
      · rw [er_updp mp, upd_ne npq.symm]; exact hq6
      · rw [er_updp mp, upd_same]
      · rw [ksR_app, hks, List.take_succ, List.getElem?_eq_getElem hi]; rfl
    · rintro σ' H' ⟨x, y, rows, rfl, g, hq3, hp3, hks, hT⟩
      rw [List.length_map, List.take_length] at hks
      exact ⟨_, rfl, k p rows H' (by rw [hks]; exact hperm) hT (g.le (by rw [List.length_map]; omega) (by omega)) hp3 ep⟩
end
end K5
set_option Elab.async false
set_option linter.all false
set_option maxRecDepth 100000
set_option maxHeartbeats 4000000
namespace K5
open PySem L2
local macro_rules | `(tactic| walk_at "rd1") => `(tactic| first
  | refine ⟨_, _, rfl, rfl, ?_⟩
  | refine ⟨_, _, _, _, rfl, rfl, SqL.of (by assumption), rfl, ?_⟩
  | refine ⟨_, _, _, _, rfl, rfl, (by assumption), rfl, ?_⟩
  | refine .inl ⟨_, rfl, ?_⟩
  | refine ⟨_, rfl, ?_⟩
  | refine ⟨(by unfold CMul; omega), ?_⟩
  | refine ⟨(by unfold CPow; omega), ?_⟩
  | refine ⟨(by (try dsimp only); omega), ?_⟩
  | refine ⟨(by unfold CDiv; omega), ?_⟩
  | fail "rd1")
local macro_rules | `(tactic| walk_at "rd") => `(tactic| repeat' (walk_at "rd1"))
section
variable {P : Program} {w : World} {K : PySem.W.Frag} {mg : Str → Option Value} {base : Heap} {A : Ad}

def letters : Str := "abcdefghijklmnopqrstuvwxyz"
structure Nm (s : Str) : Prop where
  noclock : s ≠ "clock"
  pos : 1 ≤ s.length
  most : s.length ≤ 8
  low : ∀ c ∈ s.cps.toList, c ∈ letters.cps.toList
theorem nm_dec {xs : List Str} (h : (xs.all fun s => (decide (s ≠ "clock") && (decide (1 ≤ s.length) && (decide (s.length ≤ 8) && s.cps.toList.all fun c => decide (c ∈ letters.cps.toList))))) = true) : ∀ s ∈ xs, Nm s := by
  intro s hs
  have := List.all_eq_true.mp h s hs
  simp only [Bool.and_eq_true, decide_eq_true_eq, List.all_eq_true] at this
  exact ⟨this.1, this.2.1, this.2.2.1, this.2.2.2⟩
theorem pool_nm : ∀ s ∈ pool, Nm s := nm_dec (by decide +kernel)
theorem qq_nm : Nm "qq" := nm_dec (xs := ["qq"]) (by decide +kernel) _ (List.mem_singleton.mpr rfl)
def spIsName : Sp := fun vs H Q _ => ∃ (s : Str), vs = [.str s] ∧ Nm s ∧ ∀ H', Same H H' → Q (.bl true) H'
theorem ok_isname (T : Txt K mg A) : FnOk P w K mg base CX0 1 A.a_is_name A.d_is_name P_is_name spIsName := by
  refine T.f_is_name.ok sc_is_name (fun vs H Q E h => ?_) (fun cdv A' outer s H vs Q E hr h => ?_)
  · obtain ⟨s, rfl, _⟩ := h
    rfl
  · obtain ⟨z, rfl, N, k⟩ := h
    refine ⟨_, (pss_cons (ps_if (PW.pt (pw_or (pt_not (pt_val (pe_callB call_isi (by rfl) T.isinstance (by decide +kernel) (pa_cons (pv 0) (pa_cons (pe_bltn (v := .ty "str") (u := .type "str") (by rfl) T.str (by decide +kernel) rfl) pa_nil))))) (pw_or1 (pt_cmpR op_eq (pv 0) (pe_glob (v := .str "clock") (by rfl) T.g_CLOCK.choose_spec ⟨_, rfl⟩) (nomark _)))))
 (pss_one (ps_ret pe_bl))
 pss_nil)
 (pss_one (ps_ret (pe_and (pe_chain op_le op_le pe_int (pe_callB call_len_str (by rfl) T.len PySem.boot_len (pa_cons (pv 0) pa_nil)) (pe_glob (v := .int 8) (by rfl) T.g_LONGEST_NAME.choose_spec ⟨_, rfl⟩)) (pe_one (pe_callB (cr_all rfl) (by rfl) T.all (by decide +kernel) (pa_cons (pe_lc (own := [("sign", 1)]) (g := gName 1) (by rfl) sc_is_name.nd (pi_str (pv 0)) (blkOk_by (N := N_is_name) (sc := defScope s_is_name) (by decide +kernel)) (fun _ _ _ _ _ => pg_name (i := 1) sc_is_name.nd rfl (Or.inl rfl)) (fun _ _ _ _ _ => pts_nil) (fun _ _ _ _ _ => (pe_cmpR op_in_sign (pv 1) (pe_glob (v := .str "abcdefghijklmnopqrstuvwxyz") (by rfl) T.g_LETTERS.choose_spec ⟨_, rfl⟩) (by rfl)))) pa_nil))))))), ?_⟩
    refine ⟨_, rfl, _, _, .type "str", _, true, rfl, .ty _, .base (.str _), kit_ty (by decide +kernel), _, rfl, iteF ?_⟩
    refine ⟨_, rfl, rfl, _, rfl, ite2 (fun q => absurd (of_decide_eq_true q) (fun q => N.noclock (V.str.inj q))) (fun _ => ?_)⟩
    have l8 := N.most
    have l1 := N.pos
    have hsz : z.length ≤ sizeLine := Nat.le_trans l8 (by decide)
    refine ⟨_, rfl, z, rfl, hsz, _, _, rfl, rfl, _, rfl, ite2 (fun _ => ?_) (fun q => (q (decide_eq_true (by omega))).elim)⟩
    refine ⟨_, _, rfl, rfl, _, rfl, ite2 (fun _ => ?_) (fun q => (q (decide_eq_true (by omega))).elim)⟩
    refine ⟨_, rfl, z, rfl, fun D hD => lc_it walk_str (fun i H' => Same H H' ∧ H' D = some (.lst ((List.replicate i true).map V.bl))) ⟨Same.new hD, upd_same⟩ (fun _ _ _ _ => trivial) ?_ (fun H' q => ?_)⟩
    · rintro i x H' H'' hi ⟨s1, hD'⟩ ⟨rfl, c, hc, rfl⟩
      have hm : c ∈ z.cps.toList := by
        have := Array.mem_of_getElem? hc
        exact Array.mem_toList_iff.mpr this
      have e1 : decide (c ∈ letters.cps.toList) = true := decide_eq_true (N.low c hm)
      refine ⟨rfl, _, rfl, c, letters, rfl, rfl, _, hD', by rw [List.length_map, List.length_replicate]; exact Nat.lt_of_lt_of_le hi hsz, ?_, ?_⟩
      · exact fun b u e => by rw [upd_ne (ne_of_none e hD)]; exact s1 _ _ e
      · rw [upd_same, e1, List.replicate_succ', List.map_append]; rfl
    · refine ⟨D, _, rfl, SqL.of q.2, ?_⟩
      rw [all_true]
      exact k _ q.1
theorem rdUp {H H' : Hp} {d : Addr} {u : HO} (h : Rd H d u) (s : Same H H') : Rd H' d u := h.elim (fun q => .inl (s _ _ q)) (fun ⟨o, q⟩ => .inr ⟨o, s _ _ q⟩)
/-- is_dish of a text, or of what is none -/
def spIsDish (K : PySem.W.Frag) : Sp := fun vs H Q _ => ∃ (x : V) (dd : Addr) (kvs : List (Key × V)), vs = [x, .ref dd] ∧ Rd H dd (.dK kvs) ∧
  ((∃ s, x = .str s ∧ Q (.bl (valV kvs (.inr s)).isSome) H) ∨ ∃ t, TyX K H x (.type t) ∧ kitB t "str" = some false ∧ Q (.bl false) H)
theorem ok_isdish (T : Txt K mg A) : FnOk P w K mg base CX0 1 A.a_is_dish A.d_is_dish P_is_dish (spIsDish K) := by
  refine T.f_is_dish.ok sc_is_dish (fun vs H Q E h => ?_) (fun cdv A' outer s H vs Q E hr h => ?_)
  · obtain ⟨s, dd, kvs, rfl, _⟩ := h
    rfl
  · obtain ⟨x, dd, kvs, rfl, hd, h⟩ := h
    refine ⟨_, (pss_one (ps_ret (pe_and (pe_callB call_isi (by rfl) T.isinstance (by decide +kernel) (pa_cons (pv 0) (pa_cons (pe_bltn (v := .ty "str") (u := .type "str") (by rfl) T.str (by decide +kernel) rfl) pa_nil))) (pe_one (pe_cmp (pc_din (hu_of hr) (pv 0) (pv 1)) rfl))))), ?_⟩
    rcases h with ⟨z, rfl, k⟩ | ⟨t, ht, hk, k⟩
    · exact ⟨_, rfl, _, _, .type "str", _, true, rfl, .ty _, .base (.str _), kit_ty (by decide +kernel), _, rfl, iteT ⟨_, rfl, _, rfl, dd, _, rfl, .inl ⟨kvs, .inr z, hd, rfl, rfl⟩, k⟩⟩
    · exact ⟨_, rfl, _, _, .type t, _, false, rfl, .ty _, ht, kit_ty hk, _, rfl, iteF k⟩
/-- alike, of two texts -/
def spAlike : Sp := fun vs H Q _ => ∃ (a b : Str), vs = [.str a, .str b] ∧ Q (.bl (decide (V.str a = V.str b))) H
theorem ok_alike (T : Txt K mg A) : FnOk P w K mg base CX0 1 A.a_alike A.d_alike P_alike spAlike := by
  have G_alike : FnOk P w K mg base CX0 0 A.a_alike A.d_alike P_alike (fun _ _ _ _ => False) := no_fn fun _ _ _ _ h => h
  refine T.f_alike.ok sc_alike (fun vs H Q E h => ?_) (fun cdv A' outer s H vs Q E hr h => ?_)
  · obtain ⟨a, b, rfl, _⟩ := h
    rfl
  · obtain ⟨a, b, rfl, k⟩ := h
    refine ⟨_, (pss_cons (ps_if (PW.pt (pw_and (pt_val (pe_callB call_isi (by rfl) T.isinstance (by decide +kernel) (pa_cons (pv 0) (pa_cons (pe_bltn (v := .ty "tuple") (u := .type "tuple") (by rfl) T.tuple (by decide +kernel) rfl) pa_nil)))) (pw_and1 (pt_val (pe_callB call_isi (by rfl) T.isinstance (by decide +kernel) (pa_cons (pv 1) (pa_cons (pe_bltn (v := .ty "tuple") (u := .type "tuple") (by rfl) T.tuple (by decide +kernel) rfl) pa_nil)))))))
 (pss_cons (ps_if (pt_cmpR op_ne (pe_callB call_len_seq (by rfl) T.len PySem.boot_len (pa_cons (pv 0) pa_nil)) (pe_callB call_len_seq (by rfl) T.len PySem.boot_len (pa_cons (pv 1) pa_nil)) (nomark _))
 (pss_one (ps_ret pe_bl))
 pss_nil)
 (pss_one (ps_ret (pe_callB (cr_all rfl) (by rfl) T.all (by decide +kernel) (pa_cons (pe_lc (own := [("mine", 2), ("yours", 3)]) (g := gTup K 2 (gCons (gName 2) (gCons (gName 3) gNil))) (by rfl) sc_alike.nd (pi_zip (by rfl) T.zip (pa_cons (pv 0) (pa_cons (pv 1) pa_nil))) (blkOk_by (N := N_alike) (sc := defScope s_alike) (by decide +kernel)) (fun _ _ _ _ _ => (pg_tup rfl (pgs_cons (pg_name (i := 2) sc_alike.nd rfl (Or.inl rfl)) (pgs_cons (pg_name (i := 3) sc_alike.nd rfl (Or.inl rfl)) pgs_nil)))) (fun _ _ _ _ _ => pts_nil) (fun _ _ _ _ _ => (pe_call G_alike (hr.mono (by omega)) (by rfl) T.g_alike T.f_alike.kp T.b_alike .nil pass0 (pa_cons (pv 2) (pa_cons (pv 3) pa_nil))))) pa_nil)))))
 pss_nil)
 (pss_one (ps_ret (pe_and (pe_cmpR op_eq (pe_callB call_isi (by rfl) T.isinstance (by decide +kernel) (pa_cons (pv 0) (pa_cons (pe_bltn (v := .ty "bool") (u := .type "bool") (by rfl) T.bool (by decide +kernel) rfl) pa_nil))) (pe_callB call_isi (by rfl) T.isinstance (by decide +kernel) (pa_cons (pv 1) (pa_cons (pe_bltn (v := .ty "bool") (u := .type "bool") (by rfl) T.bool (by decide +kernel) rfl) pa_nil))) (nomark _)) (pe_one (pe_cmpR op_eq (pv 0) (pv 1) (nomark _))))))), ?_⟩
    refine ⟨_, rfl, _, _, .type "str", _, false, rfl, .ty _, .base (.str _), kit_ty (by decide +kernel), _, rfl, iteF ?_⟩
    refine ⟨_, rfl, _, _, .type "str", _, false, rfl, .ty _, .base (.str _), kit_ty (by decide +kernel), _, rfl, _, _, .type "str", _, false, rfl, .ty _, .base (.str _), kit_ty (by decide +kernel), rfl, _, rfl, iteT ⟨_, rfl, _, rfl, rfl, ?_⟩⟩
    exact k
end
end K5
set_option Elab.async false
set_option linter.all false
set_option maxRecDepth 100000
set_option maxHeartbeats 4000000
namespace K5
open PySem L2
local macro_rules | `(tactic| walk_at "rd1") => `(tactic| first
  | refine ⟨_, _, rfl, rfl, ?_⟩
  | refine ⟨_, _, _, _, rfl, rfl, SqL.of (by assumption), rfl, ?_⟩
  | refine ⟨_, _, _, _, rfl, rfl, (by assumption), rfl, ?_⟩
  | refine .inl ⟨_, rfl, ?_⟩
  | refine ⟨_, rfl, ?_⟩
  | refine ⟨(by unfold CMul; omega), ?_⟩
  | refine ⟨(by unfold CPow; omega), ?_⟩
  | refine ⟨(by (try dsimp only); omega), ?_⟩
  | refine ⟨(by unfold CDiv; omega), ?_⟩
  | fail "rd1")
local macro_rules | `(tactic| walk_at "rd") => `(tactic| repeat' (walk_at "rd1"))
section
variable {P : Program} {w : World} {K : PySem.W.Frag} {mg : Str → Option Value} {base : Heap} {A : Ad}

theorem valV_at : ∀ {kvs : List (Key × V)} {i : Nat} {k : Key} {v : V}, (kvs.map (·.1)).Nodup → kvs[i]? = some (k, v) → valV kvs k = some v
  | p :: r, 0, k, v, _, h => by
    have e : p = (k, v) := Option.some.inj h
    rw [valV_pos (by rw [e]), e]
  | p :: r, i + 1, k, v, hN, h => by
    have hr : r[i]? = some (k, v) := h
    rw [List.map_cons, List.nodup_cons] at hN
    rw [valV_neg (fun e => hN.1 (by rw [e]; exact List.mem_map.mpr ⟨(k, v), List.mem_of_getElem? hr, rfl⟩))]
    exact valV_at hN.2 hr
  | [], i, k, v, _, h => by simp at h
/-- each hangs on the clock or on one of a lesser rank -/
def Acy (rk : Str → Nat) (rows : Rows) : Prop := ∀ k h : Str, (k, h) ∈ rows → h = "clock" ∨ (h ∈ ksR rows ∧ rk h < rk k)
structure ROk (rk : Str → Nat) (rows : Rows) : Prop where
  nd : (ksR rows).Nodup
  nm : ∀ s ∈ ksR rows, Nm s ∧ PyData.strOk s = true
  len : rows.length < 64
  acy : Acy rk rows
  rkb : ∀ s ∈ ksR rows, rk s < 64
theorem ksR_len (rows : Rows) : (ksR rows).length = rows.length := by simp [ksR]
theorem kvR_nd {rows : Rows} (h : (ksR rows).Nodup) : ((kvR rows).map (·.1)).Nodup := by
  rw [kvR_keys]
  exact List.pairwise_map.mpr (h.imp fun n e => n (Sum.inr.inj e))
theorem kvR_at {rows : Rows} {i : Nat} {k : Key} {v : V} (h : (kvR rows)[i]? = some (k, v)) : ∃ a b : Str, k = .inr a ∧ v = .str b ∧ rows[i]? = some (a, b) := by
  unfold kvR at h
  rw [List.getElem?_map] at h
  cases e : rows[i]? with
  | none => rw [e] at h; cases h
  | some r => rw [e] at h; cases h; exact ⟨r.1, r.2, rfl, rfl, rfl⟩
theorem valR {rows : Rows} (nd : (ksR rows).Nodup) {k h : Str} (m : (k, h) ∈ rows) : valV (kvR rows) (.inr k) = some (.str h) := by
  obtain ⟨i, hi, e⟩ := List.getElem_of_mem m
  have : (kvR rows)[i]? = some (.inr k, .str h) := by
    unfold kvR
    rw [List.getElem?_map, List.getElem?_eq_getElem hi, e]; rfl
  exact valV_at (kvR_nd nd) this
theorem memR {rows : Rows} {k : Str} (m : k ∈ ksR rows) : ∃ h, (k, h) ∈ rows := by
  obtain ⟨r, hr, e⟩ := List.mem_map.mp m
  exact ⟨r.2, by rw [← e]; exact hr⟩
theorem memK {rows : Rows} {k h : Str} (m : (k, h) ∈ rows) : k ∈ ksR rows := List.mem_map.mpr ⟨_, m, rfl⟩
theorem memSnd {rows : Rows} (nd : (ksR rows).Nodup) {k h h' : Str} (m : (k, h) ∈ rows) (m' : (k, h') ∈ rows) : h = h' := by
  have a := valR nd m
  rw [valR nd m'] at a
  cases a
  rfl
/-! ### the checks -/
def spHook : Sp := fun vs H Q _ => ∃ (h : Str) (d : Addr) (od : Obj) (rows : Rows), vs = [.str h, .ref d] ∧ H d = some (.frz od (.dK (kvR rows))) ∧ rows.length < 64 ∧ (h = "clock" ∨ h ∈ ksR rows) ∧ ∀ H', Same H H' → Q (.bl true) H'
theorem ok_hook (T : Txt K mg A) : FnOk P w K mg base CX0 2 A.a_is_hook A.d_is_hook P_is_hook spHook := by
  have G_alike : FnOk P w K mg base CX0 1 A.a_alike A.d_alike P_alike spAlike := ok_alike T
  refine T.f_is_hook.ok sc_is_hook (fun vs H Q E h => ?_) (fun cdv A' outer s H vs Q E hr h => ?_)
  · obtain ⟨h, d, od, rows, rfl, _⟩ := h
    rfl
  · obtain ⟨h, d, od, rows, rfl, hd, hl, hh, k⟩ := h
    refine ⟨_, (pss_one (ps_ret (pe_or (pe_cmpR op_eq (pv 0) (pe_glob (v := .str "clock") (by rfl) T.g_CLOCK.choose_spec ⟨_, rfl⟩) (nomark _)) (pe_one (pe_callB (cr_any rfl) (by rfl) T.any (by decide +kernel) (pa_cons (pe_lc (own := [("key", 2)]) (g := gName 2) (by rfl) sc_is_hook.nd (pi_keys (pv 1)) (blkOk_by (N := N_is_hook) (sc := defScope s_is_hook) (by decide +kernel)) (fun _ _ _ _ _ => pg_name (i := 2) sc_is_hook.nd rfl (Or.inl rfl)) (fun _ _ _ _ _ => pts_nil) (fun _ _ _ _ _ => (pe_call G_alike (hr.mono (by omega)) (by rfl) T.g_alike T.f_alike.kp T.b_alike .nil pass0 (pa_cons (pv 0) (pa_cons (pv 2) pa_nil))))) pa_nil)))))), ?_⟩
    refine ⟨_, rfl, rfl, _, rfl, ite2 (fun q => k _ (Same.refl _)) (fun q => ?_)⟩
    have hm : h ∈ ksR rows := hh.resolve_left fun e => q (by rw [e]; rfl)
    refine ⟨_, rfl, d, od, rfl, .inl ⟨kvR rows, hd, fun D hD => lc_it walk_keys (fun i H' => Same H H' ∧ H' D = some (.lst ((((ksR rows).take i).map fun k => decide (V.str h = V.str k)).map V.bl))) ⟨Same.new hD, upd_same⟩ (fun i H' _ z => z.1 _ _ hd) ?_ (fun H' z => ?_)⟩⟩
    · rintro i x H' H'' hi ⟨s1, hD'⟩ ⟨rfl, key, v, hk, rfl⟩
      obtain ⟨a, b, rfl, rfl, hr⟩ := kvR_at hk
      have hi2 : i < (ksR rows).length := by rw [kvR_len] at hi; rw [ksR_len]; exact hi
      have ea : (ksR rows)[i]? = some a := by unfold ksR; rw [List.getElem?_map, hr]; rfl
      refine ⟨rfl, _, rfl, _, rfl, h, a, rfl, _, hD', ?_, ?_, ?_⟩
      · rw [List.length_map, List.length_map, List.length_take]
        exact Nat.lt_of_le_of_lt (show min i _ ≤ 64 by rw [ksR_len] at *; omega) (by decide)
      · exact fun b u e => by rw [upd_ne (ne_of_none e hD)]; exact s1 _ _ e
      · rw [upd_same, List.take_succ, ea, List.map_append, List.map_append]; rfl
    · obtain ⟨s1, hD'⟩ := z
      refine ⟨D, _, rfl, SqL.of hD', ?_⟩
      have e : ((((ksR rows).take (kvR rows).length).map fun k => decide (V.str h = V.str k)).any id) = true := by
        rw [List.take_of_length_le (by rw [ksR_len, kvR_len]; exact Nat.le_refl _), List.any_map, List.any_eq_true]
        exact ⟨h, hm, decide_eq_true rfl⟩
      rw [e]
      exact k _ s1
def spChkR : Sp := fun vs H Q _ => ∃ (dd : Addr) (rk : Str → Nat) (rows : Rows), vs = [.ref dd] ∧ H dd = some (.dK (kvR rows)) ∧ ROk rk rows ∧ ∀ H', Same H H' → Q .non H'
theorem ok_chkr (T : Txt K mg A) : FnOk P w K mg base CX0 3 A.a_check_rows A.d_check_rows P_check_rows spChkR := by
  have G_is_name : FnOk P w K mg base CX0 1 A.a_is_name A.d_is_name P_is_name spIsName := ok_isname T
  have G_is_hook : FnOk P w K mg base CX0 2 A.a_is_hook A.d_is_hook P_is_hook spHook := ok_hook T
  refine T.f_check_rows.ok sc_check_rows (fun vs H Q E h => ?_) (fun cdv A' outer s H vs Q E hr h => ?_)
  · obtain ⟨dd, rk, rows, rfl, _⟩ := h
    rfl
  · obtain ⟨dd, rk, rows, rfl, hd, hO, k⟩ := h
    refine ⟨_, (pss_one (ps_lock (ps_for PassesOwn.never rfl (pi_keys (pv 0)) (pg_name (i := 1) sc_check_rows.nd rfl (Or.inl rfl))
 (pss_one (ps_if (PW.pt (pw_or (pt_not (pt_val (pe_call G_is_name (hr.mono (by omega)) (by rfl) T.g_is_name T.f_is_name.kp T.b_is_name .nil pass0 (pa_cons (pv 1) pa_nil)))) (pw_or1 (pt_not (pt_val (pe_call G_is_hook (hr.mono (by omega)) (by rfl) T.g_is_hook T.f_is_hook.kp T.b_is_hook .nil pass0 (pa_cons (pe_dget (hu_of hr) (pv 0) (pv 1) (fun _ _ => rfl)) (pa_cons (pv 0) pa_nil))))))))
 (pss_one ps_never)
 pss_nil))))), ?_⟩
    refine ⟨dd, _, hd, trivial, fun od => ?_⟩
    refine ⟨_, rfl, dd, od, rfl, .inl ⟨kvR rows, upd_same, for_it walk_keys (fun i σ' H' => ∃ x, σ' = [some (.ref dd), x] ∧ Same (upd H dd (.frz od (.dK (kvR rows)))) H') ⟨none, rfl, Same.refl _⟩ (fun i σ' H' _ ⟨_, _, s⟩ => s _ _ upd_same) ?_ ?_⟩⟩
    · rintro i x σ' H' H'' hi ⟨y, rfl, s1⟩ ⟨rfl, key, v, hk, rfl⟩
      obtain ⟨a, b, rfl, rfl, hr2⟩ := kvR_at hk
      have hm := List.mem_of_getElem? hr2
      refine ⟨_, rfl, a, rfl, (hO.nm a (memK hm)).1, fun H2 s2 => ⟨_, rfl, iteF ?_⟩⟩
      have hd2 : H2 dd = some (.frz od (.dK (kvR rows))) := s2 _ _ (s1 _ _ upd_same)
      refine ⟨_, rfl, _, rfl, dd, .str b, rfl, .inl ⟨kvR rows, .inr a, .inr ⟨od, hd2⟩, rfl, (valR hO.nd hm).symm⟩, _, rfl, b, dd, od, rows, rfl, hd2, hO.len, (hO.acy a b hm).imp_right And.left, fun H3 s3 => ⟨_, rfl, iteF ?_⟩⟩
      exact ⟨_, rfl, (s1.trans s2).trans s3⟩
    · rintro σ' H' ⟨x, rfl, s1⟩
      refine ⟨s1 _ _ upd_same, k _ fun b u e => ?_⟩
      by_cases hb : b = dd
      · subst hb
        rw [hd] at e
        cases e
        exact upd_same
      · rw [upd_ne hb]
        exact s1 _ _ (by rw [upd_ne hb]; exact e)
end
end K5
set_option Elab.async false
set_option linter.all false
set_option maxRecDepth 100000
set_option maxHeartbeats 4000000
namespace K5
open PySem L2
local macro_rules | `(tactic| walk_at "rd1") => `(tactic| first
  | refine ⟨_, _, rfl, rfl, ?_⟩
  | refine ⟨_, _, _, _, rfl, rfl, SqL.of (by assumption), rfl, ?_⟩
  | refine ⟨_, _, _, _, rfl, rfl, (by assumption), rfl, ?_⟩
  | refine .inl ⟨_, rfl, ?_⟩
  | refine ⟨_, rfl, ?_⟩
  | refine ⟨(by unfold CMul; omega), ?_⟩
  | refine ⟨(by unfold CPow; omega), ?_⟩
  | refine ⟨(by (try dsimp only); omega), ?_⟩
  | refine ⟨(by unfold CDiv; omega), ?_⟩
  | fail "rd1")
local macro_rules | `(tactic| walk_at "rd") => `(tactic| repeat' (walk_at "rd1"))
section
variable {P : Program} {w : World} {K : PySem.W.Frag} {mg : Str → Option Value} {base : Heap} {A : Ad}

/-- what a climb may stand at, below the dish nm -/
def At (rk : Str → Nat) (rows : Rows) (nm h : Str) : Prop := h = "clock" ∨ (h ∈ ksR rows ∧ rk h < rk nm)
def msr (rk : Str → Nat) (h : Str) : Nat := if h = "clock" then 0 else rk h + 1
def spFrom : Sp := fun vs H Q _ => ∃ (nm : Str) (d : Addr) (rk : Str → Nat) (rows : Rows), vs = [.str nm, .ref d] ∧ H d = some (.dK (kvR rows)) ∧ ROk rk rows ∧ nm ∈ ksR rows ∧
  ∀ (p : Addr) (H' : Hp), Same H H' → H p = none → H' p = some (.lst []) → Q (.ref p) H'
theorem ok_from (T : Txt K mg A) : FnOk P w K mg base CX0 1 A.a_round_from A.d_round_from P_round_from spFrom := by
  refine T.f_round_from.ok sc_round_from (fun vs H Q E h => ?_) (fun cdv A' outer s H vs Q E hr h => ?_)
  · obtain ⟨nm, d, rk, rows, rfl, _⟩ := h
    rfl
  · obtain ⟨nm, d, rk, rows, rfl, hd, hO, hn, k⟩ := h
    refine ⟨_, (pss_cons (ps_set (i := 2) sc_round_from.nd rfl (Or.inl rfl) (pe_lst (pa_cons (pv 0) pa_nil)))
 (pss_cons (ps_set (i := 3) sc_round_from.nd rfl (Or.inl rfl) (pe_dget (hu_of hr) (pv 1) (pv 0) (fun _ _ => rfl)))
 (pss_cons (ps_while PassesOwn.never (PW.pt (pw_and (pt_cmpR op_ne (pv 3) (pe_glob (v := .str "clock") (by rfl) T.g_CLOCK.choose_spec ⟨_, rfl⟩) (nomark _)) (pw_and (pt_cmpR op_ne (pv 3) (pv 0) (nomark _)) (pw_and1 (pt_cmpR op_lt (pe_callB call_len_seq (by rfl) T.len PySem.boot_len (pa_cons (pv 2) pa_nil)) (pe_callB call_lenD (by rfl) T.len PySem.boot_len (pa_cons (pv 1) pa_nil)) (nomark _))))))
 (pss_cons (ps_expr (pe_bm PySem.F.plainAttrs_list PySem.F.slot_list_append PySem.F.type_list_append mt_append (pv 2) (pa_cons (pv 3) pa_nil)))
 (pss_one (ps_set (i := 3) sc_round_from.nd rfl (Or.inl rfl) (pe_dget (hu_of hr) (pv 1) (pv 3) (fun _ _ => rfl))))))
 (pss_one (ps_ret (pe_ifExp (pt_cmpR op_eq (pv 3) (pv 0) (nomark _)) (pv 2) (pe_lst pa_nil))))))), ?_⟩
    obtain ⟨h0, hm0⟩ := memR hn
    refine ⟨_, rfl, by show 1 ≤ sizeLine; decide, fun p hp => ?_⟩
    have s0 : Same H (upd H p (.lst [.str nm])) := Same.new hp
    refine ⟨_, rfl, _, rfl, d, _, rfl, .inl ⟨kvR rows, .inr nm, .inl (s0 _ _ hd), rfl, (valR hO.nd hm0).symm⟩, ?_⟩
    have npd : d ≠ p := ne_of_none hd hp
    refine while_ex (fun mm σ' H' => ∃ (xs : List V) (h : Str), σ' = [some (.str nm), some (.ref d), some (.ref p), some (.str h)] ∧ Same H H' ∧ H' p = some (.lst xs) ∧ At rk rows nm h ∧ mm = msr rk h)
      (fun σ' H' => ∃ (h : Str), σ' = [some (.str nm), some (.ref d), some (.ref p), some (.str h)] ∧ Same H H' ∧ At rk rows nm h)
      ⟨_, h0, rfl, s0, upd_same, hO.acy _ _ hm0, rfl⟩ (fun nx hnx => ?_) ?_
    · rintro mm σ' H' ⟨xs, h, rfl, s1, hp1, hat, rfl⟩
      refine ⟨_, rfl, rfl, _, rfl, ite2 (fun c1 => ?_) (fun _ => hnx _ _ ⟨h, rfl, s1, hat⟩)⟩
      have hne : h ≠ "clock" := fun e => by rw [e] at c1; cases c1
      obtain ⟨hin, hlt⟩ := hat.resolve_left hne
      refine ⟨_, rfl, _, rfl, rfl, _, rfl, ite2 (fun c2 => ?_) (fun _ => hnx _ _ ⟨h, rfl, s1, hat⟩)⟩
      refine ⟨_, rfl, _, _, rfl, .inl (SqL.of hp1), _, rfl, d, _, rfl, s1 _ _ hd, _, _, rfl, rfl, _, rfl, ite2 (fun c3 => ?_) (fun _ => hnx _ _ ⟨h, rfl, s1, hat⟩)⟩
      have hl : xs.length < 64 := by
        have q := of_decide_eq_true c3
        have := hO.len
        rw [kvR_len] at q
        omega
      obtain ⟨h2, hm2⟩ := memR hin
      refine ⟨_, fun _ _ z => z, ?_⟩
      refine ⟨_, rfl, .inl ⟨rfl, _, SqL.of hp1⟩, _, rfl, _, _, _, rfl, rfl, hp1, Nat.lt_of_lt_of_le hl (by decide), ?_⟩
      have s2 : Same H (upd H' p (.lst (xs ++ [.str h]))) := fun b u e => by rw [upd_ne (ne_of_none e hp)]; exact s1 _ _ e
      refine ⟨_, rfl, _, rfl, d, _, rfl, .inl ⟨kvR rows, .inr h, .inl (s2 _ _ hd), rfl, (valR hO.nd hm2).symm⟩, ?_⟩
      refine ⟨msr rk h2, ?_, _, h2, rfl, s2, upd_same, ?_, rfl⟩
      · unfold msr
        rw [if_neg hne]
        rcases hO.acy _ _ hm2 with e | e
        · rw [if_pos e]; omega
        · split
          · omega
          · have := e.2; omega
      · exact (hO.acy _ _ hm2).imp_right fun e => ⟨e.1, Nat.lt_trans e.2 hlt⟩
    · rintro σ' H' ⟨h, rfl, s1, hat⟩
      have hne : h ≠ nm := fun e => by
        rcases hat with q | q
        · exact (hO.nm nm hn).1.noclock (e.symm.trans q)
        · rw [e] at q; exact Nat.lt_irrefl _ q.2
      refine ⟨_, rfl, _, rfl, rfl, _, rfl, ite2 (fun q => absurd (V.str.inj (of_decide_eq_true q)) hne) (fun _ => ⟨Nat.zero_le _, fun q hq => ?_⟩)⟩
      exact k q _ (s1.trans (Same.new hq)) (s1.free hq) upd_same
def spRounds : Sp := fun vs H Q _ => ∃ (dd : Addr) (rk : Str → Nat) (rows : Rows), vs = [.ref dd] ∧ H dd = some (.dK (kvR rows)) ∧ ROk rk rows ∧ ∀ H', Same H H' → Q .non H'
theorem ok_rounds (T : Txt K mg A) : FnOk P w K mg base CX0 2 A.a_check_rounds A.d_check_rounds P_check_rounds spRounds := by
  have G_round_from : FnOk P w K mg base CX0 1 A.a_round_from A.d_round_from P_round_from spFrom := ok_from T
  refine T.f_check_rounds.ok sc_check_rounds (fun vs H Q E h => ?_) (fun cdv A' outer s H vs Q E hr h => ?_)
  · obtain ⟨dd, rk, rows, rfl, _⟩ := h
    rfl
  · obtain ⟨dd, rk, rows, rfl, hd, hO, k⟩ := h
    refine ⟨_, (pss_one (ps_for PassesOwn.never rfl (pi_list (pe_callB (call_sortedD rfl) (by rfl) T.sorted (by decide +kernel) (pa_cons (pv 0) pa_nil))) (pg_name (i := 1) sc_check_rounds.nd rfl (Or.inl rfl))
 (pss_cons (ps_set (i := 2) sc_check_rounds.nd rfl (Or.inl rfl) (pe_call G_round_from (hr.mono (by omega)) (by rfl) T.g_round_from T.f_round_from.kp T.b_round_from .nil pass0 (pa_cons (pv 1) (pa_cons (pv 0) pa_nil))))
 (pss_one (ps_if (pt_truth (pv 2) (by intro _; rfl))
 (pss_one ps_never)
 pss_nil))))), ?_⟩
    refine ⟨_, rfl, dd, _, ksR rows, rfl, .inl hd, kvR_keys rows, by rw [ksR_len]; exact hO.len, fun ys q hperm _ hq => ?_⟩
    refine ⟨q, rfl, ⟨_, SqL.of upd_same⟩, for_it walk_list (fun i σ' H' => ∃ x y, σ' = [some (.ref dd), x, y] ∧ Same (upd H q (.lst (ys.map V.str))) H') ⟨_, _, rfl, Same.refl _⟩ (fun i σ' H' _ z => SqL.of (z.choose_spec.choose_spec.2 _ _ upd_same)) ?_ ?_⟩
    · rintro i v σ' H' H'' hi ⟨x, y, rfl, s1⟩ ⟨rfl, hx⟩
      obtain ⟨hi, rfl⟩ := str_at hx
      have S1 : Same H H'' := (Same.new hq).trans s1
      refine ⟨_, rfl, _, rfl, ys[i], dd, rk, rows, rfl, S1 _ _ hd, hO, hperm.mem_iff.mp (List.getElem_mem hi), fun p H3 s3 hp hp3 => ?_⟩
      refine ⟨_, rfl, false, ?_, iteF ?_⟩
      · exact .inl ⟨_, SqL.of hp3, rfl⟩
      · exact ⟨_, _, rfl, s1.trans s3⟩
    · rintro σ' H' ⟨x, y, rfl, s1⟩
      exact k _ ((Same.new hq).trans s1)
end
end K5
set_option Elab.async false
set_option linter.all false
set_option maxRecDepth 100000
set_option maxHeartbeats 4000000
namespace K5
open PySem L2
local macro_rules | `(tactic| walk_at "rd1") => `(tactic| first
  | refine ⟨_, _, rfl, rfl, ?_⟩
  | refine ⟨_, _, _, _, rfl, rfl, SqL.of (by assumption), rfl, ?_⟩
  | refine ⟨_, _, _, _, rfl, rfl, (by assumption), rfl, ?_⟩
  | refine .inl ⟨_, rfl, ?_⟩
  | refine ⟨_, rfl, ?_⟩
  | refine ⟨(by unfold CMul; omega), ?_⟩
  | refine ⟨(by unfold CPow; omega), ?_⟩
  | refine ⟨(by (try dsimp only); omega), ?_⟩
  | refine ⟨(by unfold CDiv; omega), ?_⟩
  | fail "rd1")
local macro_rules | `(tactic| walk_at "rd") => `(tactic| repeat' (walk_at "rd1"))
section
variable {P : Program} {w : World} {K : PySem.W.Frag} {mg : Str → Option Value} {base : Heap} {A : Ad}

theorem fillD {J : It} {n : Nat} {G : Hp → Prop} {Y : Nat → Hp → V → Hp → Prop} (wk : Walk J n G Y) {g : TG} {tt : TT} {tk tv : TE} {vs : List Nat} {σ : St} {H1 : Hp} {D : Addr} {Qd : Hp → Prop} (I : Nat → Hp → Prop)
    (i0 : I 0 (upd H1 D (.dK []))) (iG : ∀ i H, i ≤ n → I i H → G H)
    (step : ∀ i x H H', i < n → I i H → Y i H x H' → g x (wipe σ vs) H' fun σ2 H2 => wipe σ2 vs = wipe σ vs ∧ tt σ2 H2 fun b H3 =>
      if b = true then tk σ2 H3 fun y H4 => tv σ2 H4 fun z H5 => ∃ kvs k, y = kV k ∧ H5 D = some (.dK kvs) ∧ kvs.length < sizeLine ∧ I (i + 1) (upd H5 D (.dK (putK kvs k z))) else I (i + 1) H3)
    (last : ∀ H, I n H → Qd H) :
    ∃ W : Nat → Nat → Hp → Prop, (∃ m, W 0 m (upd H1 D (.dK []))) ∧ ∀ i m H, W i m H →
      (J.stop i H ∧ Qd H) ∨ (J.go i H ∧ ∃ Nx : Hp → Prop, (∀ H', Nx H' → ∃ m', m' < m ∧ W (i + 1) m' H') ∧ ∀ x H', J.yld i H x H' → g x (wipe σ vs) H' fun σ2 H2 => wipe σ2 vs = wipe σ vs ∧ tt σ2 H2 fun b H3 =>
        if b = true then tk σ2 H3 fun y H4 => tv σ2 H4 fun z H5 => ∃ kvs k, y = kV k ∧ H5 D = some (.dK kvs) ∧ kvs.length < sizeLine ∧ Nx (upd H5 D (.dK (putK kvs k z))) else Nx H3) := by
  refine ⟨fun i m H => m + i = n ∧ I i H, ⟨n, rfl, i0⟩, fun i m H ⟨e, h⟩ => ?_⟩
  have g' := iG i H (by omega) h
  rcases Nat.lt_or_ge i n with lt | ge
  · exact .inr ⟨wk.goes i H lt g', I (i + 1), fun H' h' => ⟨m - 1, by omega, by omega, h'⟩, fun x H' y => step i x H H' lt h (wk.yields i H x H' lt g' y)⟩
  · obtain rfl : i = n := by omega
    exact .inl ⟨wk.stops H g', last H h⟩
/-- the same rows, ascending -/
structure Asc (rows rs : Rows) : Prop where
  keys : (ksR rs).Perm (ksR rows)
  mem : ∀ k h, (k, h) ∈ rs → (k, h) ∈ rows
  asc : PyProof.Rows.sortedS (ksR rs) = true
theorem Asc.ok {rk : Str → Nat} {rows rs : Rows} (a : Asc rows rs) (h : ROk rk rows) : ROk rk rs := by
  have l := a.keys.length_eq
  rw [ksR_len, ksR_len] at l
  exact ⟨a.keys.nodup_iff.mpr h.nd, fun s m => h.nm s (a.keys.mem_iff.mp m), by rw [l]; exact h.len, fun k b m => (h.acy k b (a.mem k b m)).imp_right fun e => ⟨a.keys.mem_iff.mpr e.1, e.2⟩, fun s m => h.rkb s (a.keys.mem_iff.mp m)⟩
/-- an instance of Hanging at p -/
structure HgAt (C : Addr) (H : Hp) (p q : Addr) (rs : Rows) : Prop where
  ex : ∃ dx, H p = some (.ins C dx [("hooks", .ref q)])
  at_ : H q = some (.dK (kvR rs))
theorem HgAt.up {C : Addr} {H H' : Hp} {p q : Addr} {rs : Rows} (h : HgAt C H p q rs) (s : Same H H') : HgAt C H' p q rs := ⟨h.ex.imp fun _ e => s _ _ e, s _ _ h.at_⟩
def spHInit (C : Addr) : Sp := fun vs H Q _ => ∃ (p dx dd : Addr) (rk : Str → Nat) (rows : Rows), vs = [.ref p, .ref dd] ∧ H p = some (.ins C dx []) ∧ H dd = some (.dK (kvR rows)) ∧ ROk rk rows ∧
  ∀ (H' : Hp) (q : Addr) (rs : Rows), HgAt C H' p q rs → H q = none → Asc rows rs → Same (er H p) (er H' p) → Q .non H'
theorem ok_hinit (T : Txt K mg A) : FnOk P w K mg base CX0 4 A.a_Hanging___init__ A.d_Hanging___init__ P_Hanging___init__ (spHInit A.a_Hanging) := by
  have G_check_rows : FnOk P w K mg base CX0 3 A.a_check_rows A.d_check_rows P_check_rows spChkR := ok_chkr T
  have G_check_rounds : FnOk P w K mg base CX0 2 A.a_check_rounds A.d_check_rounds P_check_rounds spRounds := ok_rounds T
  refine T.f_Hanging___init__.ok sc_Hanging___init__ (fun vs H Q E h => ?_) (fun cdv A' outer s H vs Q E hr h => ?_)
  · obtain ⟨p, dx, dd, rk, rows, rfl, _⟩ := h
    rfl
  · obtain ⟨p, dx, dd, rk, rows, rfl, hp, hd, hO, k⟩ := h
    refine ⟨_, PSs.nox (pss_cons (ps_expr (pe_call G_check_rows (hr.mono (by omega)) (by rfl) T.g_check_rows T.f_check_rows.kp T.b_check_rows .nil pass0 (pa_cons (pv 1) pa_nil)))
 (pss_cons (ps_expr (pe_call G_check_rounds (hr.mono (by omega)) (by rfl) T.g_check_rounds T.f_check_rounds.kp T.b_check_rounds .nil pass0 (pa_cons (pv 1) pa_nil)))
 (pss_one (ps_fld (pv 0) (pe_dc (own := [("name", 2)]) (g := gName 2) (by rfl) sc_Hanging___init__.nd (pi_list (pe_callB (call_sortedD rfl) (by rfl) T.sorted (by decide +kernel) (pa_cons (pv 1) pa_nil))) (blkOk_by (N := N_Hanging___init__) (sc := defScope s_Hanging___init__) (by decide +kernel)) (fun _ _ _ _ _ => pg_name (i := 2) sc_Hanging___init__.nd rfl (Or.inl rfl)) (fun _ _ _ _ _ => pts_nil) (fun _ _ _ _ _ => (pv 2)) (fun _ _ _ _ _ => (pe_dget (hu_of hr) (pv 1) (pv 2) (fun _ _ => rfl)))) rfl)))), ?_⟩
    have npd : dd ≠ p := ne_of hd hp (fun z => nomatch z)
    refine ⟨_, rfl, dd, rk, rows, rfl, hd, hO, fun H1 s1 => ?_⟩
    refine ⟨_, rfl, dd, rk, rows, rfl, s1 _ _ hd, hO, fun H2 s2 => ?_⟩
    have S2 := s1.trans s2
    have hd2 := S2 _ _ hd
    refine ⟨_, rfl, dd, _, ksR rows, rfl, .inl hd2, kvR_keys rows, by rw [ksR_len]; exact hO.len, fun ys q hperm hsort hq => ?_⟩
    have yN : ys.Nodup := hperm.nodup_iff.mpr hO.nd
    have yl : ys.length < 64 := by rw [hperm.length_eq, ksR_len]; exact hO.len
    refine ⟨q, rfl, ⟨_, SqL.of upd_same⟩, fun D hD => fillD walk_list (fun i H' => Same (upd H2 q (.lst (ys.map V.str))) H' ∧ ∃ rs : Rows, H' D = some (.dK (kvR rs)) ∧ ksR rs = ys.take i ∧ ∀ k h, (k, h) ∈ rs → (k, h) ∈ rows) ⟨Same.new hD, [], upd_same, rfl, fun _ _ m => by cases m⟩ (fun i H' _ h => SqL.of (h.1 _ _ upd_same)) ?_ (fun H4 h4 => ?_)⟩
    · rintro i x H' H'' hi ⟨s4, rs, hrs, hks, hsub⟩ ⟨rfl, hx⟩
      obtain ⟨hi, rfl⟩ := str_at hx
      have hm : ys[i] ∈ ksR rows := hperm.mem_iff.mp (List.getElem_mem hi)
      obtain ⟨h, hh⟩ := memR hm
      have S4 : Same H H'' := S2.trans ((Same.new hq).trans s4)
      have kl : rs.length = i := by
        have := congrArg List.length hks
        rw [ksR_len, List.length_take] at this
        omega
      have hk : (Sum.inr ys[i] : Key) ∉ (kvR rs).map (·.1) := by
        rw [kvR_keys, hks]
        intro m
        obtain ⟨z, hz, ez⟩ := List.mem_map.mp m
        exact not_in_take yN hi (by rw [← Sum.inr.inj ez]; exact hz)
      refine ⟨rfl, _, rfl, _, rfl, _, rfl, dd, .str h, rfl, .inl ⟨kvR rows, .inr ys[i], .inl (S4 _ _ hd), rfl, (valR hO.nd hh).symm⟩, kvR rs, .inr ys[i], rfl, hrs, ?_, ?_, ?_⟩
      · rw [kvR_len, kl]; exact Nat.lt_of_lt_of_le (show i < 65 by omega) (by decide)
      · exact fun c u e => by rw [upd_ne (ne_of_none e hD)]; exact s4 _ _ e
      · rw [put_new _ _ _ hk, ← kvR_app]
        refine ⟨_, upd_same, ?_, fun a b m => ?_⟩
        · rw [ksR_app, hks, List.take_succ, List.getElem?_eq_getElem hi]; rfl
        · rcases List.mem_append.mp m with m | m
          · exact hsub a b m
          · cases List.mem_singleton.mp m; exact hh
    · obtain ⟨s4, rs, hrs, hks, hsub⟩ := h4
      rw [List.length_map, List.take_length] at hks
      have S4 : Same H H4 := S2.trans ((Same.new hq).trans s4)
      have hp4 := S4 _ _ hp
      have nDp : D ≠ p := fun e => by rw [e, hp4] at hrs; cases hrs
      refine ⟨_, rfl, p, A.a_Hanging, dx, _, rfl, hp4, T.cl, T.nH, by decide, ?_⟩
      refine k _ D rs ⟨⟨dx, upd_same⟩, by rw [upd_ne nDp]; exact hrs⟩ (((S2.trans (Same.new hq))).free hD) ⟨by rw [hks]; exact hperm, hsub, by rw [hks]; exact hsort⟩ ?_
      rw [er_upd]; exact er_mono S4
def spHRows (C : Addr) : Sp := fun vs H Q _ => ∃ (p q : Addr) (rs : Rows), vs = [.ref p] ∧ HgAt C H p q rs ∧ ∀ l, H l = none → Q (.ref l) (upd H l (.dK (kvR rs)))
theorem ok_hrows (T : Txt K mg A) : FnOk P w K mg base CX0 1 A.a_Hanging_rows A.d_Hanging_rows P_Hanging_rows (spHRows A.a_Hanging) := by
  refine T.f_Hanging_rows.ok sc_Hanging_rows (fun vs H Q E h => ?_) (fun cdv A' outer s H vs Q E hr h => ?_)
  · obtain ⟨p, q, rs, rfl, _⟩ := h
    rfl
  · obtain ⟨p, q, rs, rfl, ⟨⟨dx, hp⟩, hq⟩, k⟩ := h
    refine ⟨_, (pss_one (ps_ret (pe_callTy call_dictD (by rfl) T.dict (by decide +kernel) (pa_cons (pe_fld (pv 0) rfl) pa_nil)))), ?_⟩
    exact ⟨_, rfl, p, A.a_Hanging, dx, _, _, rfl, hp, T.cl, T.nH, rfl, q, _, rfl, .inl hq, k⟩
def spHDishes (C : Addr) : Sp := fun vs H Q _ => ∃ (p q : Addr) (rs : Rows), vs = [.ref p] ∧ HgAt C H p q rs ∧ ∀ l, H l = none → Q (.ref l) (upd H l (.lst ((ksR rs).map V.str)))
theorem ok_hdishes (T : Txt K mg A) : FnOk P w K mg base CX0 1 A.a_Hanging_dishes A.d_Hanging_dishes P_Hanging_dishes (spHDishes A.a_Hanging) := by
  refine T.f_Hanging_dishes.ok sc_Hanging_dishes (fun vs H Q E h => ?_) (fun cdv A' outer s H vs Q E hr h => ?_)
  · obtain ⟨p, q, rs, rfl, _⟩ := h
    rfl
  · obtain ⟨p, q, rs, rfl, ⟨⟨dx, hp⟩, hq⟩, k⟩ := h
    refine ⟨_, (pss_one (ps_ret (pe_callTy (call_listD rfl) (by rfl) T.list (by decide +kernel) (pa_cons (pe_fld (pv 0) rfl) pa_nil)))), ?_⟩
    refine ⟨_, rfl, p, A.a_Hanging, dx, _, _, rfl, hp, T.cl, T.nH, rfl, q, _, rfl, .inl hq, fun l hl => ?_⟩
    have e : ((kvR rs).map fun kv => kV kv.1) = (ksR rs).map V.str := by simp [kvR, ksR, kV]
    rw [e]
    exact k l hl
end
end K5
set_option Elab.async false
set_option linter.all false
set_option maxRecDepth 100000
set_option maxHeartbeats 4000000
namespace K5
open PySem L2
local macro_rules | `(tactic| walk_at "rd1") => `(tactic| first
  | refine ⟨_, _, rfl, rfl, ?_⟩
  | refine ⟨_, _, _, _, rfl, rfl, SqL.of (by assumption), rfl, ?_⟩
  | refine ⟨_, _, _, _, rfl, rfl, (by assumption), rfl, ?_⟩
  | refine .inl ⟨_, rfl, ?_⟩
  | refine ⟨_, rfl, ?_⟩
  | refine ⟨(by unfold CMul; omega), ?_⟩
  | refine ⟨(by unfold CPow; omega), ?_⟩
  | refine ⟨(by (try dsimp only); omega), ?_⟩
  | refine ⟨(by unfold CDiv; omega), ?_⟩
  | fail "rd1")
local macro_rules | `(tactic| walk_at "rd") => `(tactic| repeat' (walk_at "rd1"))
section
variable {P : Program} {w : World} {K : PySem.W.Frag} {mg : Str → Option Value} {base : Heap} {A : Ad}

/-! ### copies -/
def SqX (K : PySem.W.Frag) (H : Hp) (a : Addr) (xs : List V) : Prop := SqL K H a xs ∨ SqT K H a xs
theorem seq_or {H0 H : Hp} {t : Addr} {xs : List V} {j : Nat} {σ : St} {R : It → Hp → Prop} (h : SqX K H0 t xs) (s0 : Same H0 H) (hj : σ[j]? = some (some (.ref t))) (hR : ∀ J G, Walk J xs.length G (YAt xs) → (∀ H', Same H0 H' → G H') → R J H) :
    iList K (tVar j) σ H R ∨ iTup K (tVar j) σ H R :=
  h.elim (fun q => .inl ⟨_, hj, t, rfl, ⟨_, sqUp q s0⟩, hR _ _ walk_list fun H' s => sqUp q s⟩) (fun q => .inr ⟨_, hj, t, rfl, ⟨_, stUp q s0⟩, hR _ _ walk_tup fun H' s => stUp q s⟩)
/-- G' is G and what is new since H -/
structure More (H G G' : Hp) : Prop where
  same : Same G G'
  new : ∀ b, G' b ≠ none → G b ≠ none ∨ H b = none
theorem More.refl (H G : Hp) : More H G G := ⟨Same.refl _, fun _ h => .inl h⟩
theorem More.step {H H1 G G1 G2 : Hp} (a : More H G G1) (s : Same H H1) (b : More H1 G1 G2) : More H G G2 := ⟨a.same.trans b.same, fun x h => (b.new x h).elim (a.new x) fun e => .inr (s.free e)⟩
theorem More.put {H G G1 : Hp} {D : Addr} {o : HO} (a : More H G G1) (hD : H D = none) (h1 : G1 D = none) : More H G (upd G1 D o) := ⟨a.same.trans (Same.new h1), fun b h => by
  by_cases e : b = D
  · exact .inr (by rw [e]; exact hD)
  · rw [upd_ne e] at h; exact a.new b h⟩
theorem dpApp {H : Hp} : ∀ {vs : List V} {ds : List PyData} {v : V} {d : PyData}, DpAll K H vs ds → Dp K H v d → DpAll K H (vs ++ [v]) (ds ++ [d])
  | _, _, _, _, .nil, h => .cons h .nil
  | _, _, _, _, .cons a b, h => .cons a (dpApp b h)
def spCopy (K : PySem.W.Frag) (n : Nat) : Sp := fun vs H Q _ => ∃ x, vs = [x] ∧
  ((∃ (d : PyData) (G : Hp), Same G H ∧ Dp K G x d ∧ d.depth < n ∧ wid d = true ∧ ∀ y G' H', Same H H' → More H G G' → Same G' H' → Dp K G' y d → Q y H') ∨
    (∃ a, x = .ref a ∧ H a = some (.dK []) ∧ 0 < n ∧ ∀ b H', Same H H' → H b = none → H' b = some (.dK []) → Q (.ref b) H'))
theorem copy_loop {J : It} {n : Nat} {Gd : Hp → Prop} {xs : List V} {ds : List PyData} {H G : Hp} {D : Addr} {x0 : V} {Qd : Hp → Prop} (wk : Walk J xs.length Gd (YAt xs)) (hx : DpAll K G xs ds) (hGH : Same G H)
    (hd : PyData.depthAll ds < n) (hw : widAll ds = true) (hN : ds.length ≤ 1000) (hG : ∀ H', Same H H' → Gd H') (hD : H D = none) (hq : ∀ H' acc G', Same H H' → H' D = some (.lst acc) → More H G G' → Same G' H' → G' D = none → DpAll K G' acc ds → Qd H') :
    ∃ W : Nat → Nat → Hp → Prop, (∃ m, W 0 m (upd H D (.lst []))) ∧ ∀ i m H, W i m H →
      (J.stop i H ∧ Qd H) ∨ (J.go i H ∧ ∃ Nx : Hp → Prop, (∀ H', Nx H' → ∃ m', m' < m ∧ W (i + 1) m' H') ∧ ∀ x H', J.yld i H x H' →
        gName 1 x (wipe [some x0, none, none] [1]) H' fun σ2 H2 => wipe σ2 [1] = wipe [some x0, none, none] [1] ∧ tYes σ2 H2 fun b H3 =>
        if b = true then (tCall (spCopy K n) [] E0 (tCons (tVar 1) tNil)) σ2 H3 fun y H4 => ∃ acc, H4 D = some (.lst acc) ∧ acc.length < sizeLine ∧ Nx (upd H4 D (.lst (acc ++ [y]))) else Nx H3) := by
  have gD : G D = none := hGH.free hD
  refine lc_it wk (fun i H' => Same H H' ∧ ∃ acc G', H' D = some (.lst acc) ∧ More H G G' ∧ Same G' H' ∧ G' D = none ∧ DpAll K G' acc (ds.take i)) ⟨Same.new hD, [], G, upd_same, More.refl _ _, hGH.trans (Same.new hD), gD, .nil⟩ (fun i H' _ p => hG H' p.1) ?_ (fun H' p => ?_)
  · rintro i v H' H'' hi ⟨s1, acc, G', hD', mo, sG, gD', hA⟩ ⟨rfl, hv⟩
    obtain ⟨d, hd1, dx⟩ := dpGet hx hv
    have hdep : d.depth < n := Nat.lt_of_le_of_lt (PyData.depth_le_depthAll ds d (List.mem_of_getElem? hd1)) hd
    have hil : i < ds.length := (List.getElem?_eq_some_iff.mp hd1).1
    have hal := dpLen hA
    refine ⟨rfl, _, rfl, v, rfl, .inl ⟨d, G', sG, dpSame mo.same dx, hdep, widAll_mem hw (List.mem_of_getElem? hd1), fun y G2 H3 s3 mo2 sG2 hy => ?_⟩⟩
    have hD3 := s3 _ _ hD'
    refine ⟨acc, hD3, Nat.lt_of_le_of_lt (show acc.length ≤ 1000 by rw [hal, List.length_take]; omega) (by decide), ?_, acc ++ [y], G2, upd_same, mo.step s1 mo2, ?_, ?_, ?_⟩
    · exact fun b u e => by rw [upd_ne (ne_of_none e hD)]; exact s3 _ _ (s1 _ _ e)
    · have g2 : G2 D = none := by
        cases e : G2 D with
        | none => rfl
        | some o => exact ((mo2.new D (by rw [e]; exact fun z => nomatch z)).elim (fun z => z gD') fun z => by rw [hD'] at z; cases z).elim
      exact fun b u e => by rw [upd_ne (ne_of_none e g2)]; exact sG2 _ _ e
    · cases e : G2 D with
      | none => rfl
      | some o => exact ((mo2.new D (by rw [e]; exact fun z => nomatch z)).elim (fun z => z gD') fun z => by rw [hD'] at z; cases z).elim
    · rw [List.take_succ, hd1]
      exact dpApp (dpAllSame mo2.same hA) hy
  · obtain ⟨s1, acc, G', hD', mo, sG, gD', hA⟩ := p
    rw [dpLen hx, List.take_length] at hA
    exact hq H' acc G' s1 hD' mo sG gD' hA
end
end K5
set_option Elab.async false
set_option linter.all false
set_option maxRecDepth 100000
set_option maxHeartbeats 4000000
namespace K5
open PySem L2
local macro_rules | `(tactic| walk_at "rd1") => `(tactic| first
  | refine ⟨_, _, rfl, rfl, ?_⟩
  | refine ⟨_, _, _, _, rfl, rfl, SqL.of (by assumption), rfl, ?_⟩
  | refine ⟨_, _, _, _, rfl, rfl, (by assumption), rfl, ?_⟩
  | refine .inl ⟨_, rfl, ?_⟩
  | refine ⟨_, rfl, ?_⟩
  | refine ⟨(by unfold CMul; omega), ?_⟩
  | refine ⟨(by unfold CPow; omega), ?_⟩
  | refine ⟨(by (try dsimp only); omega), ?_⟩
  | refine ⟨(by unfold CDiv; omega), ?_⟩
  | fail "rd1")
local macro_rules | `(tactic| walk_at "rd") => `(tactic| repeat' (walk_at "rd1"))
section
variable {P : Program} {w : World} {K : PySem.W.Frag} {mg : Str → Option Value} {base : Heap} {A : Ad}

theorem ok_copied (T : Txt K mg A) : ∀ n : Nat, FnOk P w K mg base CX0 n A.a_copied A.d_copied P_copied (spCopy K n)
  | 0 => no_fn fun vs H Q E ⟨_, _, h⟩ => h.elim (fun ⟨_, _, _, _, h, _⟩ => absurd h (Nat.not_lt_zero _)) fun ⟨_, _, _, h, _⟩ => absurd h (Nat.not_lt_zero _)
  | n + 1 => by
    have G_copied : FnOk P w K mg base CX0 n A.a_copied A.d_copied P_copied (spCopy K n) := ok_copied T n
    refine T.f_copied.ok sc_copied (fun vs H Q E h => ?_) (fun cdv A' outer s H vs Q E hr h => ?_)
    · obtain ⟨x, rfl, _⟩ := h
      rfl
    · obtain ⟨x, rfl, h⟩ := h
      refine ⟨_, (pss_cons (ps_if (pt_val (pe_callB call_isi (by rfl) T.isinstance (by decide +kernel) (pa_cons (pv 0) (pa_cons (pe_bltn (v := .ty "list") (u := .type "list") (by rfl) T.list (by decide +kernel) rfl) pa_nil))))
 (pss_one (ps_ret (pe_lc (own := [("part", 1)]) (g := gName 1) (by rfl) sc_copied.nd (EnT.pi_or (pi_list (pv 0)) (pi_tup (pv 0))) (blkOk_by (N := N_copied) (sc := defScope s_copied) (by decide +kernel)) (fun _ _ _ _ _ => pg_name (i := 1) sc_copied.nd rfl (Or.inl rfl)) (fun _ _ _ _ _ => pts_nil) (fun _ _ _ _ _ => (pe_call G_copied (hr.mono (by omega)) (by rfl) T.g_copied T.f_copied.kp T.b_copied .nil pass0 (pa_cons (pv 1) pa_nil))))))
 pss_nil)
 (pss_cons (ps_if (pt_val (pe_callB call_isi (by rfl) T.isinstance (by decide +kernel) (pa_cons (pv 0) (pa_cons (pe_bltn (v := .ty "tuple") (u := .type "tuple") (by rfl) T.tuple (by decide +kernel) rfl) pa_nil))))
 (pss_one (ps_ret (pe_callTy call_tuple_of (by rfl) T.tuple (by decide +kernel) (pa_cons (pe_lc (own := [("part", 1)]) (g := gName 1) (by rfl) sc_copied.nd (EnT.pi_or (pi_list (pv 0)) (pi_tup (pv 0))) (blkOk_by (N := N_copied) (sc := defScope s_copied) (by decide +kernel)) (fun _ _ _ _ _ => pg_name (i := 1) sc_copied.nd rfl (Or.inl rfl)) (fun _ _ _ _ _ => pts_nil) (fun _ _ _ _ _ => (pe_call G_copied (hr.mono (by omega)) (by rfl) T.g_copied T.f_copied.kp T.b_copied .nil pass0 (pa_cons (pv 1) pa_nil)))) pa_nil))))
 pss_nil)
 (pss_cons (ps_if (pt_val (pe_callB call_isi (by rfl) T.isinstance (by decide +kernel) (pa_cons (pv 0) (pa_cons (pe_bltn (v := .ty "dict") (u := .type "dict") (by rfl) T.dict (by decide +kernel) rfl) pa_nil))))
 (pss_one (ps_ret (pe_lock (pe_dc (own := [("key", 2)]) (g := gName 2) (by rfl) sc_copied.nd (pi_keys (pv 0)) (blkOk_by (N := N_copied) (sc := defScope s_copied) (by decide +kernel)) (fun _ _ _ _ _ => pg_name (i := 2) sc_copied.nd rfl (Or.inl rfl)) (fun _ _ _ _ _ => pts_nil) (fun _ _ _ _ _ => (pv 2)) (fun _ _ _ _ _ => (pe_call G_copied (hr.mono (by omega)) (by rfl) T.g_copied T.f_copied.kp T.b_copied .nil pass0 (pa_cons (pe_dget (hu_of hr) (pv 0) (pv 2) (fun _ _ => rfl)) pa_nil)))))))
 pss_nil)
 (pss_one (ps_ret (pv 0)))))), ?_⟩
      rcases h with ⟨d, G, sG, hx, hd, hw, k⟩ | ⟨a, rfl, ha, _, k⟩
      · cases hx with
        | non => exact ⟨_, rfl, _, _, .type "NoneType", _, false, rfl, .ty _, .base .non, kit_ty (by decide +kernel), _, rfl, iteF ⟨_, rfl, _, _, .type "NoneType", _, false, rfl, .ty _, .base .non, kit_ty (by decide +kernel), _, rfl, iteF ⟨_, rfl, _, _, .type "NoneType", _, false, rfl, .ty _, .base .non, kit_ty (by decide +kernel), _, rfl, iteF ⟨_, rfl, k _ G H (Same.refl _) (More.refl _ _) sG (.non)⟩⟩⟩⟩
        | bl b => exact ⟨_, rfl, _, _, .type "bool", _, false, rfl, .ty _, .base (.bl _), kit_ty (by decide +kernel), _, rfl, iteF ⟨_, rfl, _, _, .type "bool", _, false, rfl, .ty _, .base (.bl _), kit_ty (by decide +kernel), _, rfl, iteF ⟨_, rfl, _, _, .type "bool", _, false, rfl, .ty _, .base (.bl _), kit_ty (by decide +kernel), _, rfl, iteF ⟨_, rfl, k _ G H (Same.refl _) (More.refl _ _) sG (.bl _)⟩⟩⟩⟩
        | int i => exact ⟨_, rfl, _, _, .type "int", _, false, rfl, .ty _, .base (.int _), kit_ty (by decide +kernel), _, rfl, iteF ⟨_, rfl, _, _, .type "int", _, false, rfl, .ty _, .base (.int _), kit_ty (by decide +kernel), _, rfl, iteF ⟨_, rfl, _, _, .type "int", _, false, rfl, .ty _, .base (.int _), kit_ty (by decide +kernel), _, rfl, iteF ⟨_, rfl, k _ G H (Same.refl _) (More.refl _ _) sG (.int _)⟩⟩⟩⟩
        | str z => exact ⟨_, rfl, _, _, .type "str", _, false, rfl, .ty _, .base (.str _), kit_ty (by decide +kernel), _, rfl, iteF ⟨_, rfl, _, _, .type "str", _, false, rfl, .ty _, .base (.str _), kit_ty (by decide +kernel), _, rfl, iteF ⟨_, rfl, _, _, .type "str", _, false, rfl, .ty _, .base (.str _), kit_ty (by decide +kernel), _, rfl, iteF ⟨_, rfl, k _ G H (Same.refl _) (More.refl _ _) sG (.str _)⟩⟩⟩⟩
        | lst hL hA =>
          obtain ⟨w1, w2⟩ := wid_parts (.inl hw)
          have t1 := tyL (sqUp hL sG)
          refine ⟨_, rfl, _, _, .type "list", _, true, rfl, .ty _, t1, kit_ty (by decide +kernel), _, rfl, iteT ?_⟩
          refine seq_or (H0 := H) (.inl (sqUp hL sG)) (Same.refl _) rfl fun J Gd wk hG => fun D hD => copy_loop wk hA sG (by simp only [PyData.depth] at hd; omega) w2 w1 hG hD (fun H' acc G' s' hD' mo sG' gD hA' => ?_)
          refine k (.ref D) (upd G' D (.lst acc)) H' s' (mo.put hD gD) ?_ (.lst (SqL.of upd_same) (dpAllSame (Same.new gD) hA'))
          intro b u e
          by_cases hb : b = D
          · subst hb; rw [upd_same] at e; cases e; exact hD'
          · rw [upd_ne hb] at e; exact sG' _ _ e
        | tup hL hA =>
          obtain ⟨w1, w2⟩ := wid_parts (.inr hw)
          have t1 := tyT (stUp hL sG)
          refine ⟨_, rfl, _, _, .type "tuple", _, false, rfl, .ty _, t1, kit_ty (by decide +kernel), _, rfl, iteF ?_⟩
          refine ⟨_, rfl, _, _, .type "tuple", _, true, rfl, .ty _, t1, kit_ty (by decide +kernel), _, rfl, iteT ?_⟩
          refine seq_or (H0 := H) (.inr (stUp hL sG)) (Same.refl _) rfl fun J Gd wk hG => fun D hD => copy_loop wk hA sG (by simp only [PyData.depth] at hd; omega) w2 w1 hG hD (fun H' acc G' s' hD' mo sG' gD hA' => ?_)
          refine ⟨D, _, rfl, .inl ⟨SqL.of hD', fun t ht => ?_⟩⟩
          have gt : G' t = none := sG'.free ht
          refine k (.ref t) (upd G' t (.tup acc)) _ (s'.trans (Same.new ht)) (mo.put (s'.free ht) gt) ?_ (.tup (SqT.of upd_same) (dpAllSame (Same.new gt) hA'))
          intro b u e
          by_cases hb : b = t
          · subst hb; rw [upd_same] at e ⊢; exact e
          · rw [upd_ne hb] at e ⊢; exact sG' _ _ e
      · have t1 : TyX K H (.ref a) (.type "dict") := .base (.dK ha)
        refine ⟨_, rfl, _, _, .type "dict", _, false, rfl, .ty _, t1, kit_ty (by decide +kernel), _, rfl, iteF ?_⟩
        refine ⟨_, rfl, _, _, .type "dict", _, false, rfl, .ty _, t1, kit_ty (by decide +kernel), _, rfl, iteF ?_⟩
        refine ⟨_, rfl, _, _, .type "dict", _, true, rfl, .ty _, t1, kit_ty (by decide +kernel), _, rfl, iteT ?_⟩
        refine ⟨a, _, ha, trivial, fun od => ?_⟩
        refine ⟨_, rfl, a, od, rfl, .inl ⟨[], upd_same, fun D hD => fillD walk_keys (fun i H' => H' = upd (upd H a (.frz od (.dK []))) D (.dK [])) rfl (fun i H' _ e => ?_) ?_ (fun H' e => ?_)⟩⟩
        · have n : a ≠ D := ne_of_none upd_same hD
          rw [e, upd_ne n, upd_same]
        · intro i x H' H'' hi
          exact absurd hi (Nat.not_lt_zero _)
        · subst e
          have n : a ≠ D := ne_of_none upd_same hD
          have hD0 : H D = none := by rw [upd_ne n.symm] at hD; exact hD
          refine ⟨by rw [upd_ne n, upd_same], k D _ (fun b u e => ?_) hD0 (by rw [upd_ne n.symm, upd_same])⟩
          by_cases hb : b = a
          · subst hb; rw [upd_same]; rw [ha] at e; exact e
          · rw [upd_ne hb, upd_ne (ne_of_none e hD0), upd_ne hb]; exact e
end
end K5
set_option Elab.async false
set_option linter.all false
set_option maxRecDepth 100000
set_option maxHeartbeats 4000000
namespace K5
open PySem L2
local macro_rules | `(tactic| walk_at "rd1") => `(tactic| first
  | refine ⟨_, _, rfl, rfl, ?_⟩
  | refine ⟨_, _, _, _, rfl, rfl, SqL.of (by assumption), rfl, ?_⟩
  | refine ⟨_, _, _, _, rfl, rfl, (by assumption), rfl, ?_⟩
  | refine .inl ⟨_, rfl, ?_⟩
  | refine ⟨_, rfl, ?_⟩
  | refine ⟨(by unfold CMul; omega), ?_⟩
  | refine ⟨(by unfold CPow; omega), ?_⟩
  | refine ⟨(by (try dsimp only); omega), ?_⟩
  | refine ⟨(by unfold CDiv; omega), ?_⟩
  | fail "rd1")
local macro_rules | `(tactic| walk_at "rd") => `(tactic| repeat' (walk_at "rd1"))
section
variable {P : Program} {w : World} {K : PySem.W.Frag} {mg : Str → Option Value} {base : Heap} {A : Ad}

/-- data that can be copied: at a depth below n, in G; or an empty dict -/
def Cpre (K : PySem.W.Frag) (n : Nat) (G H : Hp) (x : V) : Prop := Same G H ∧ ((∃ d, Dp K G x d ∧ d.depth < n ∧ wid d = true) ∨ ∃ a, x = .ref a ∧ H a = some (.dK []) ∧ 0 < n)
/-- two of the same data -/
def SD (K : PySem.W.Frag) (n : Nat) (H : Hp) (x y : V) : Prop := (∃ d, Dp K H x d ∧ Dp K H y d ∧ d.depth < n ∧ wid d = true) ∨ ∃ a b, x = .ref a ∧ y = .ref b ∧ H a = some (.dK []) ∧ H b = some (.dK [])
def spNDI (K : PySem.W.Frag) (n : Nat) (C : Addr) : Sp := fun vs H Q _ => ∃ (a : Addr) (x : V) (G : Hp), vs = [.ref a, x] ∧ H a = some (exo a C none) ∧ G a = none ∧ Cpre K n G H x ∧
  ∀ y Hc dx, Same H Hc → Hc dx = none → dx ≠ a → (∀ H', (∀ b u, Hc b = some u → b ≠ a → H' b = some u) → SD K n H' x y) → Q .non (upd (upd Hc dx (exd dx [("name", y)])) a (exo a C (some dx)))
theorem exo_dK {e C : Addr} {d : Option Addr} {kvs : List (Key × V)} : exo e C d ≠ .dK kvs := fun z => by unfold exo at z; cases z
theorem ok_ndi (T : Txt K mg A) (n : Nat) : FnOk P w K mg base CX0 (n + 1) A.a_NoDish___init__ A.d_NoDish___init__ P_NoDish___init__ (spNDI K n A.a_NoDish) := by
  have G_copied : FnOk P w K mg base CX0 n A.a_copied A.d_copied P_copied (spCopy K n) := ok_copied T n
  refine T.f_NoDish___init__.ok sc_NoDish___init__ (fun vs H Q E h => ?_) (fun cdv A' outer s H vs Q E hr h => ?_)
  · obtain ⟨a, x, G, rfl, _⟩ := h
    rfl
  · obtain ⟨a, x, G, rfl, ha, ga, ⟨sG, hx⟩, k⟩ := h
    refine ⟨_, (pss_one (ps_ost (pv 0) (pe_call G_copied (hr.mono (by omega)) (by rfl) T.g_copied T.f_copied.kp T.b_copied .nil pass0 (pa_cons (pv 1) pa_nil)))), ?_⟩
    rcases hx with ⟨d, hx, hd, hw⟩ | ⟨a2, rfl, ha2, hn⟩
    · refine ⟨_, rfl, x, rfl, .inl ⟨d, G, sG, hx, hd, hw, fun y G' Hc s1 mo sG' hy => ⟨_, rfl, a, A.a_NoDish, rfl, T.xN, T.nN, .inl ⟨s1 _ _ ha, fun dx h1 h2 => k y Hc dx s1 h1 h2 fun H' hh => .inl ⟨d, ?_, ?_, hd, hw⟩⟩⟩⟩⟩
      · exact dpSame (fun b u e => hh b u (s1 _ _ (sG _ _ e)) fun z => by rw [z, ga] at e; cases e) hx
      · refine dpSame (fun b u e => hh b u (sG' _ _ e) fun z => ?_) hy
        subst z
        rcases mo.new b (by rw [e]; exact fun z => nomatch z) with z | z
        · exact z ga
        · rw [ha] at z; cases z
    · refine ⟨_, rfl, _, rfl, .inr ⟨a2, rfl, ha2, hn, fun b Hc s1 hb0 hb => ⟨_, rfl, a, A.a_NoDish, rfl, T.xN, T.nN, .inl ⟨s1 _ _ ha, fun dx h1 h2 => k _ Hc dx s1 h1 h2 fun H' hh => .inr ⟨a2, b, rfl, rfl, ?_, ?_⟩⟩⟩⟩⟩
      · exact hh _ _ (s1 _ _ ha2) fun z => by rw [z, ha] at ha2; exact exo_dK (Option.some.inj ha2)
      · exact hh _ _ hb fun z => by rw [z, ha] at hb0; cases hb0
/-! ### ways -/
inductive Path (rows : Rows) : Str → List Str → Prop
  | clock : Path rows "clock" []
  | step {h h2 : Str} {ws : List Str} (ne : h ≠ "clock") (m : (h, h2) ∈ rows) (r : Path rows h2 ws) : Path rows h (h :: ws)
theorem Path.det {rows : Rows} (nd : (ksR rows).Nodup) : ∀ {h : Str} {ws ws' : List Str}, Path rows h ws → Path rows h ws' → ws = ws'
  | _, _, _, .clock, .clock => rfl
  | _, _, _, .clock, .step ne _ _ => absurd rfl ne
  | _, _, _, .step ne _ _, .clock => absurd rfl ne
  | _, _, _, .step _ m r, .step _ m' r' => by
    cases memSnd nd m m'
    rw [r.det nd r']
theorem path_ex {rk : Str → Nat} {rows : Rows} (O : ROk rk rows) : ∀ (n : Nat) (h : Str), msr rk h ≤ n → (h = "clock" ∨ h ∈ ksR rows) → ∃ ws, Path rows h ws ∧ ws.length ≤ msr rk h := by
  intro n
  induction n with
  | zero =>
    intro h hn hh
    have e : h = "clock" := Decidable.byContradiction fun z => by unfold msr at hn; rw [if_neg z] at hn; omega
    subst e
    exact ⟨[], .clock, Nat.zero_le _⟩
  | succ n ih =>
    intro h hn hh
    by_cases e : h = "clock"
    · subst e; exact ⟨[], .clock, Nat.zero_le _⟩
    · obtain ⟨h2, m⟩ := memR (hh.resolve_left e)
      have lt : msr rk h2 + 1 ≤ msr rk h := by
        have := O.acy _ _ m
        unfold msr
        rw [if_neg e]
        rcases this with q | q
        · rw [if_pos q]; omega
        · split
          · omega
          · have := q.2; omega
      obtain ⟨ws, p, l⟩ := ih h2 (by omega) ((O.acy _ _ m).imp_right And.left)
      exact ⟨h :: ws, .step e m p, by rw [List.length_cons]; omega⟩
theorem msr_le {rk : Str → Nat} {rows : Rows} (O : ROk rk rows) {h : Str} (hh : h = "clock" ∨ h ∈ ksR rows) : msr rk h ≤ 64 := by
  unfold msr
  split
  · omega
  · rename_i e
    have := O.rkb h (hh.resolve_left e)
    omega
/-- the way of a dish, from its hook on -/
def Way (rows : Rows) (nm : Str) (ws : List Str) : Prop := ∃ h, (nm, h) ∈ rows ∧ Path rows h ws ∧ ws.length ≤ 64
theorem way_ex {rk : Str → Nat} {rows : Rows} (O : ROk rk rows) {nm : Str} (hm : nm ∈ ksR rows) : ∃ ws, Way rows nm ws := by
  obtain ⟨h, m⟩ := memR hm
  have hh := (O.acy _ _ m).imp_right And.left
  obtain ⟨ws, p, l⟩ := path_ex O _ h (Nat.le_refl _) hh
  exact ⟨ws, h, m, p, Nat.le_trans l (msr_le O hh)⟩
end
end K5
set_option Elab.async false
set_option linter.all false
set_option maxRecDepth 100000
set_option maxHeartbeats 4000000
namespace K5
open PySem L2
local macro_rules | `(tactic| walk_at "rd1") => `(tactic| first
  | refine ⟨_, _, rfl, rfl, ?_⟩
  | refine ⟨_, _, _, _, rfl, rfl, SqL.of (by assumption), rfl, ?_⟩
  | refine ⟨_, _, _, _, rfl, rfl, (by assumption), rfl, ?_⟩
  | refine .inl ⟨_, rfl, ?_⟩
  | refine ⟨_, rfl, ?_⟩
  | refine ⟨(by unfold CMul; omega), ?_⟩
  | refine ⟨(by unfold CPow; omega), ?_⟩
  | refine ⟨(by (try dsimp only); omega), ?_⟩
  | refine ⟨(by unfold CDiv; omega), ?_⟩
  | fail "rd1")
local macro_rules | `(tactic| walk_at "rd") => `(tactic| repeat' (walk_at "rd1"))
section
variable {P : Program} {w : World} {K : PySem.W.Frag} {mg : Str → Option Value} {base : Heap} {A : Ad}

theorem valR_none {rows : Rows} {s : Str} (h : s ∉ ksR rows) : valV (kvR rows) (.inr s) = none := by
  induction rows with
  | nil => rfl
  | cons r rs ih =>
    have e : (Sum.inr r.1 : Key) ≠ .inr s := fun z => h (by rw [← Sum.inr.inj z]; exact List.mem_cons_self ..)
    show valV ((.inr r.1, .str r.2) :: kvR rs) (.inr s) = none
    rw [valV_neg e]
    exact ih fun m => h (List.mem_cons_of_mem _ m)
/-- what is no dish is told back in an exception -/
def Odd (K : PySem.W.Frag) (n : Nat) (CN : Addr) (rs : Rows) (H : Hp) (x : V) (E : XK) : Prop := ∃ G, Cpre K n G H x ∧ ((∃ s, x = .str s ∧ s ∉ ksR rs) ∨ ∃ t, TyX K H x (.type t) ∧ kitB t "str" = some false) ∧ ∀ y dd H', Same H H' → H' dd = some (.xd [("name", y)]) → SD K n H' x y → E (.ref CN) (some dd) H'
def spChkD (K : PySem.W.Frag) (n : Nat) (CN : Addr) : Sp := fun vs H Q E => ∃ (q : Addr) (rs : Rows) (x : V), vs = [x, .ref q] ∧ H q = some (.dK (kvR rs)) ∧ (ksR rs).Nodup ∧ ((∃ nm, x = .str nm ∧ nm ∈ ksR rs ∧ Q .non H) ∨ Odd K n CN rs H x E)
theorem ok_chkd (T : Txt K mg A) (n : Nat) : FnOk P w K mg base (L2.CX P w) (n + 3) A.a_check_dish A.d_check_dish P_check_dish (spChkD K n A.a_NoDish) := by
  have G_is_dish : FnOk P w K mg base CX0 1 A.a_is_dish A.d_is_dish P_is_dish (spIsDish K) := ok_isdish T
  have G_NoDish___init__ : FnOk P w K mg base CX0 (n + 1) A.a_NoDish___init__ A.d_NoDish___init__ P_NoDish___init__ (spNDI K n A.a_NoDish) := ok_ndi T n
  refine T.f_check_dish.okX sc_check_dish (fun vs H Q E h => ?_) (fun cdv A' outer s H vs Q E hr h => ?_)
  · obtain ⟨q, rs, x, rfl, _⟩ := h
    rfl
  · obtain ⟨q, rs, x, rfl, hq, nd, h⟩ := h
    refine ⟨_, (pss_one (ps_if (pt_not (pt_val (pe_call G_is_dish (hr.mono (by omega)) (by rfl) T.g_is_dish T.f_is_dish.kp T.b_is_dish .nil pass0 (pa_cons (pv 0) (pa_cons (pv 1) pa_nil)))))
 (pss_one (ps_raise rfl (takes_of rfl rfl rfl rfl) (pmk_oex T.xN T.iN T.tN G_NoDish___init__ (hr.mono (by omega)) T.b_NoDish___init__ .nil pass0 (by rfl) T.g_NoDish (pa_cons (pv 0) pa_nil))))
 pss_nil)), ?_⟩
    refine ⟨_, rfl, _, rfl, ?_⟩
    rcases h with ⟨nm, rfl, m, k⟩ | ⟨G, ⟨sG, hx⟩, ho, k⟩
    · obtain ⟨h, m⟩ := memR m
      refine ⟨_, q, _, rfl, .inl hq, .inl ⟨nm, rfl, _, rfl, ?_⟩⟩
      rw [valR nd m]
      exact iteF k
    · have pre : ∀ a, H a = none → Cpre K n G (upd H a (exo a A.a_NoDish none)) x := fun a na => ⟨sG.trans (Same.new na), hx.imp_right fun ⟨a2, e, h2, h3⟩ => ⟨a2, e, Same.new na _ _ h2, h3⟩⟩
      have fin : ∀ (a : Addr), H a = none → ∀ y Hc dd, Same (upd H a (exo a A.a_NoDish none)) Hc → Hc dd = none → dd ≠ a → (∀ H', (∀ b u, Hc b = some u → b ≠ a → H' b = some u) → SD K n H' x y) → ∀ H2 : Hp, H2 = upd (upd Hc dd (exd dd [("name", y)])) a (exo a A.a_NoDish (some dd)) →
          H2 a = some (exo a A.a_NoDish (some dd)) ∧ H2 dd = some (exd dd [("name", y)]) ∧ H dd = none ∧ E (.ref A.a_NoDish) (some dd) (upd (del H2 a) dd (.xd [("name", y)])) := by
        rintro a na y Hc dd s1 h1 h2 hs H2 rfl
        have sH : Same H Hc := (Same.new na).trans s1
        have keep : ∀ b u, Hc b = some u → b ≠ a → upd (del (upd (upd Hc dd (exd dd [("name", y)])) a (exo a A.a_NoDish (some dd))) a) dd (.xd [("name", y)]) b = some u := fun b u e ne => by
          have nd2 : b ≠ dd := fun z => by rw [z, h1] at e; cases e
          rw [upd_ne nd2, del_ne ne, upd_ne ne, upd_ne nd2]
          exact e
        refine ⟨upd_same, by rw [upd_ne h2, upd_same], sH.free h1, k y dd _ (fun b u e => keep b u (sH _ _ e) fun z => by rw [z, na] at e; cases e) upd_same (hs _ keep)⟩
      rcases ho with ⟨s, rfl, hs⟩ | ⟨t, ht, hk⟩
      · refine ⟨_, q, _, rfl, .inl hq, .inl ⟨s, rfl, _, rfl, ?_⟩⟩
        rw [valR_none hs]
        refine iteT ⟨_, rfl, by show 1 ≤ 1000; decide, fun a na => ⟨a, _, G, rfl, upd_same, sG.free na, pre a na, fun y Hc dd s1 h1 h2 h3 => ⟨rfl, dd, _, fin a na y Hc dd s1 h1 h2 h3 _ rfl⟩⟩⟩
      · exact ⟨_, q, _, rfl, .inl hq, .inr ⟨t, ht, hk, _, rfl, iteT ⟨_, rfl, by show 1 ≤ 1000; decide, fun a na => ⟨a, _, G, rfl, upd_same, sG.free na, pre a na, fun y Hc dd s1 h1 h2 h3 => ⟨rfl, dd, _, fin a na y Hc dd s1 h1 h2 h3 _ rfl⟩⟩⟩⟩⟩
def spWayUp : Sp := fun vs H Q _ => ∃ (q : Addr) (rs : Rows) (nm : Str) (ws : List Str), vs = [.str nm, .ref q] ∧ H q = some (.dK (kvR rs)) ∧ (ksR rs).Nodup ∧ Way rs nm ws ∧ ∀ l H', Same H H' → H l = none → H' l = some (.lst (ws.reverse.map V.str)) → Q (.ref l) H'
theorem ok_wayup (T : Txt K mg A) : FnOk P w K mg base CX0 1 A.a_way_up A.d_way_up P_way_up spWayUp := by
  refine T.f_way_up.ok sc_way_up (fun vs H Q E h => ?_) (fun cdv A' outer s H vs Q E hr h => ?_)
  · obtain ⟨q, rs, nm, ws, rfl, _⟩ := h
    rfl
  · obtain ⟨q, rs, nm, ws, rfl, hq, nd, ⟨h, m, pa, hl⟩, k⟩ := h
    refine ⟨_, (pss_cons (ps_set (i := 2) sc_way_up.nd rfl (Or.inl rfl) (pe_lst pa_nil))
 (pss_cons (ps_set (i := 3) sc_way_up.nd rfl (Or.inl rfl) (pe_dget (hu_of hr) (pv 1) (pv 0) (fun _ _ => rfl)))
 (pss_cons (ps_while PassesOwn.never (pt_cmpR op_ne (pv 3) (pe_glob (v := .str "clock") (by rfl) T.g_CLOCK.choose_spec ⟨_, rfl⟩) (nomark _))
 (pss_cons (ps_expr (pe_bm PySem.F.plainAttrs_list PySem.F.slot_list_append PySem.F.type_list_append mt_append (pv 2) (pa_cons (pv 3) pa_nil)))
 (pss_one (ps_set (i := 3) sc_way_up.nd rfl (Or.inl rfl) (pe_dget (hu_of hr) (pv 1) (pv 3) (fun _ _ => rfl))))))
 (pss_one (ps_ret (pe_revL (pv 2))))))), ?_⟩
    refine ⟨Nat.zero_le _, fun l nl => ?_⟩
    have s0 : Same H (upd H l (.lst [])) := Same.new nl
    refine ⟨_, rfl, _, rfl, q, _, rfl, .inl ⟨kvR rs, .inr nm, .inl (s0 _ _ hq), rfl, (valR nd m).symm⟩, ?_⟩
    refine while_ex (fun mm σ' H' => ∃ (as bs : List Str) (h : Str), σ' = [some (.str nm), some (.ref q), some (.ref l), some (.str h)] ∧ Same H H' ∧ H' l = some (.lst (as.map V.str)) ∧ as ++ bs = ws ∧ Path rs h bs ∧ mm = bs.length)
        (fun σ' H' => ∃ (u : V), σ' = [some (.str nm), some (.ref q), some (.ref l), some u] ∧ Same H H' ∧ H' l = some (.lst (ws.map V.str)))
        ⟨[], ws, h, rfl, s0, upd_same, rfl, pa, rfl⟩ (fun nx hnx => ?_) ?_
    · rintro mm σ' H' ⟨as, bs, h, rfl, s1, hl1, hab, pb, rfl⟩
      refine ⟨_, rfl, rfl, _, rfl, ite2 (fun c1 => ?_) (fun c1 => ?_)⟩
      · cases pb with
        | clock => cases c1
        | @step _ h2 bs' ne m2 r =>
          refine ⟨_, fun _ _ z => z, ?_⟩
          have la : as.length < 64 := by
            have := congrArg List.length hab
            rw [List.length_append, List.length_cons] at this
            omega
          refine ⟨_, rfl, .inl ⟨rfl, _, SqL.of hl1⟩, _, rfl, _, _, _, rfl, rfl, hl1, by rw [List.length_map]; exact Nat.lt_of_lt_of_le la (by decide), ?_⟩
          have s2 : Same H (upd H' l (.lst (as.map V.str ++ [.str h]))) := fun b u e => by rw [upd_ne (ne_of_none e nl)]; exact s1 _ _ e
          refine ⟨_, rfl, _, rfl, q, _, rfl, .inl ⟨kvR rs, .inr h, .inl (s2 _ _ hq), rfl, (valR nd m2).symm⟩, ?_⟩
          exact ⟨bs'.length, Nat.lt_succ_self _, as ++ [h], bs', h2, rfl, s2, by rw [upd_same, List.map_append]; rfl, by rw [List.append_assoc]; exact hab, r, rfl⟩
      · cases pb with
        | clock =>
          rw [List.append_nil] at hab
          subst hab
          exact hnx _ _ ⟨_, rfl, s1, hl1⟩
        | step ne m2 r => exact absurd (by rw [decide_eq_false (fun z => ne (V.str.inj z))]; rfl) c1
    · rintro σ' H' ⟨u, rfl, s1, hl1⟩
      refine ⟨_, rfl, l, _, rfl, SqL.of hl1, fun r hr => ?_⟩
      refine k r _ (s1.trans (Same.new hr)) (s1.free hr) ?_
      rw [upd_same, List.map_reverse]
def spWay (K : PySem.W.Frag) (n : Nat) (C CN : Addr) : Sp := fun vs H Q E => ∃ (p q : Addr) (rs : Rows) (x : V), vs = [.ref p, x] ∧ HgAt C H p q rs ∧ (ksR rs).Nodup ∧
  ((∃ nm ws, x = .str nm ∧ Way rs nm ws ∧ ∀ l H', Same H H' → H l = none → H' l = some (.lst (ws.reverse.map V.str)) → Q (.ref l) H') ∨ Odd K n CN rs H x E)
theorem ok_way (T : Txt K mg A) (n : Nat) : FnOk P w K mg base (L2.CX P w) (n + 4) A.a_Hanging_way A.d_Hanging_way P_Hanging_way (spWay K n A.a_Hanging A.a_NoDish) := by
  have G_check_dish : FnOk P w K mg base (L2.CX P w) (n + 3) A.a_check_dish A.d_check_dish P_check_dish (spChkD K n A.a_NoDish) := ok_chkd T n
  have G_way_up : FnOk P w K mg base CX0 1 A.a_way_up A.d_way_up P_way_up spWayUp := ok_wayup T
  refine T.f_Hanging_way.okX sc_Hanging_way (fun vs H Q E h => ?_) (fun cdv A' outer s H vs Q E hr h => ?_)
  · obtain ⟨p, q, rs, x, rfl, _⟩ := h
    rfl
  · obtain ⟨p, q, rs, x, rfl, ⟨⟨dx, hp⟩, hq⟩, nd, h⟩ := h
    refine ⟨_, (pss_cons (ps_expr (pe_call G_check_dish (hr.mono (by omega)) (by rfl) T.g_check_dish T.f_check_dish.kp T.b_check_dish .nil (passes_call (takes_of rfl rfl rfl rfl) (fun _ _ _ _ h => h)) (pa_cons (pv 1) (pa_cons (pe_fld (pv 0) rfl) pa_nil))))
 (PSs.nox (pss_one (ps_ret (pe_call G_way_up (hr.mono (by omega)) (by rfl) T.g_way_up T.f_way_up.kp T.b_way_up .nil pass0 (pa_cons (pv 1) (pa_cons (pe_fld (pv 0) rfl) pa_nil))))))), ?_⟩
    refine ⟨_, rfl, _, rfl, p, A.a_Hanging, dx, _, _, rfl, hp, T.cl, T.nH, rfl, ?_⟩
    rcases h with ⟨nm, ws, rfl, W, k⟩ | o
    · refine ⟨q, rs, _, rfl, hq, nd, .inl ⟨nm, rfl, by obtain ⟨h, m, _⟩ := W; exact memK m, ?_⟩⟩
      exact ⟨_, rfl, _, rfl, p, A.a_Hanging, dx, _, _, rfl, hp, T.cl, T.nH, rfl, q, rs, nm, ws, rfl, hq, nd, W, k⟩
    · exact ⟨q, rs, x, rfl, hq, nd, .inr o⟩
end
end K5
set_option Elab.async false
set_option linter.all false
set_option maxRecDepth 100000
set_option maxHeartbeats 4000000
namespace K5
open PySem L2
local macro_rules | `(tactic| walk_at "rd1") => `(tactic| first
  | refine ⟨_, _, rfl, rfl, ?_⟩
  | refine ⟨_, _, _, _, rfl, rfl, SqL.of (by assumption), rfl, ?_⟩
  | refine ⟨_, _, _, _, rfl, rfl, (by assumption), rfl, ?_⟩
  | refine .inl ⟨_, rfl, ?_⟩
  | refine ⟨_, rfl, ?_⟩
  | refine ⟨(by unfold CMul; omega), ?_⟩
  | refine ⟨(by unfold CPow; omega), ?_⟩
  | refine ⟨(by (try dsimp only); omega), ?_⟩
  | refine ⟨(by unfold CDiv; omega), ?_⟩
  | fail "rd1")
local macro_rules | `(tactic| walk_at "rd") => `(tactic| repeat' (walk_at "rd1"))
section
variable {P : Program} {w : World} {K : PySem.W.Frag} {mg : Str → Option Value} {base : Heap} {A : Ad}

theorem takes_len {X : Cx} {W : WX} (t : Takes X W) : Takes X (fun c d σ H => σ.length = X.N.length → W c d σ H) := fun u s' ⟨a, B, sI, pins, σ, H, cls, d, e, I, nb, up, sky, na, os, ag, w⟩ =>
  t u s' ⟨a, B, sI, pins, σ, H, cls, d, e, I, nb, up, sky, na, os, ag, w I.len⟩
theorem three {α : Type} {xs : List α} (h : xs.length = 3) : ∃ x y z, xs = [x, y, z] := match xs, h with | [x, y, z], _ => ⟨x, y, z, rfl⟩
/-! ### what is tried -/
def TTtried (CN : Addr) : (XK → Hp → VK → Prop) → Hp → VK → Prop := fun tl H Q =>
  tl (fun cls d H' => cls = .ref CN ∧ ∃ dd y, d = some dd ∧ H' dd = some (.xd [("name", y)]) ∧ ∀ t, H' t = none → Q (.ref t) (upd H' t (.tup [.str "none", y]))) H
    (fun v H1 => [V.str "told", v].length ≤ sizeLine ∧ ∀ t, H1 t = none → ∃ u, (some (some (V.ref t)) : Option (Option V)) = some (some u) ∧ Q u (upd H1 t (.tup [.str "told", v])))
theorem tried_gives {X : Cx} {q : Str} {cdg : Value} (T : Txt X.K X.mg A) :
    LamX.GivesTo X N__law_tried "_law_tried" (defScope s__law_tried) A.a__law_tried cdg (defBody s__law_tried) "_law_ask" q (TTtried A.a_NoDish) := by
  intro f c' s H Q tl act hc h
  refine ⟨_, pss_cons (ps_set (i := 1) sc__law_tried.nd rfl (Or.inl rfl) pe_non) (pss_cons (ps_try_as (i := 2) (c := .ref A.a_NoDish)
      (tb := fun (W : WX) D σ H => ∃ Ech : XK, (∀ (cls : Value) (d : Option Addr) (σ' : St) (H' : Hp), Ech cls d H' → σ'.length = 3 → W cls d σ' H') ∧ σ[0]? = some (some (.ref f)) ∧ H c' = some (LamX.CodeO c' q) ∧ tl Ech H fun v H1 => [V.str "told", v].length ≤ sizeLine ∧ ∀ t, H1 t = none → D.nx (σ.set 1 (some (.ref t))) (upd H1 t (.tup [.str "told", v])))
      rfl rfl sc__law_tried.nd rfl rfl ⟨rfl, by decide, .inl T.g_NoDish⟩ takes0 (fun W pn xe tk _ => ?_)
      (fun a oe cls d pn hz hf => pss_one (ps_set (i := 1) sc__law_tried.nd rfl (Or.inl rfl) (pe_tup (pa_cons pe_str (pa_cons (pe_xf T.xfN T.nN hz hf (pv 2)) pa_nil)))))) (pss_one (ps_ret (pv 1)))), ?_⟩
  · refine ⟨fun pins s' σ H' D I h' => ?_⟩
    obtain ⟨Ech, hW, h1, h2, h3⟩ := h'
    have hp := fun p1 p2 => act (fun c d σ H => σ.length = 3 → W c d σ H) pn xe Ech p1 p2 (takes_len tk) hW
    exact PSs.run (pss_one (ps_set (i := 1) sc__law_tried.nd rfl (Or.inl rfl) (pe_tup (pa_cons pe_str (pa_cons (hp _ _) pa_nil))))) pins s' σ H' D I ⟨h1, h2, h3⟩
  · refine ⟨_, ?_, rfl, hc, h⟩
    rintro cls d σ' H' ⟨rfl, dd, y, rfl, hdd, k⟩ hl
    obtain ⟨x0, x1, x2, rfl⟩ := three hl
    refine ⟨true, T.eN, fun _ a ha => ?_, fun z => nomatch z⟩
    exact ⟨_, rfl, rfl, rfl, dd, _, y, rfl, hdd, rfl, by show 2 ≤ sizeLine; decide, fun t ht => ⟨_, rfl, k t ht⟩⟩
end
end K5
set_option Elab.async false
set_option linter.all false
set_option maxRecDepth 100000
set_option maxHeartbeats 4000000
namespace K5
open PySem L2
local macro_rules | `(tactic| walk_at "rd1") => `(tactic| first
  | refine ⟨_, _, rfl, rfl, ?_⟩
  | refine ⟨_, _, _, _, rfl, rfl, SqL.of (by assumption), rfl, ?_⟩
  | refine ⟨_, _, _, _, rfl, rfl, (by assumption), rfl, ?_⟩
  | refine .inl ⟨_, rfl, ?_⟩
  | refine ⟨_, rfl, ?_⟩
  | refine ⟨(by unfold CMul; omega), ?_⟩
  | refine ⟨(by unfold CPow; omega), ?_⟩
  | refine ⟨(by (try dsimp only); omega), ?_⟩
  | refine ⟨(by unfold CDiv; omega), ?_⟩
  | fail "rd1")
local macro_rules | `(tactic| walk_at "rd") => `(tactic| repeat' (walk_at "rd1"))
section
variable {P : Program} {w : World} {K : PySem.W.Frag} {mg : Str → Option Value} {base : Heap} {A : Ad}

theorem eqv_strs_refl (ss : List Str) : PyData.eqv (.list (ss.map PyData.str)) (.list (ss.map PyData.str)) = true := by
  have h : ∀ ss : List Str, PyData.eqvAll (ss.map PyData.str) (ss.map PyData.str) = true := fun ss => by
    induction ss with
    | nil => simp [PyData.eqvAll]
    | cons s ss ih => simp [PyData.eqvAll, PyData.eqv, ih]
  simp [PyData.eqv, h]
def spSameD : Sp := fun vs H Q _ => ∃ (a b : Addr) (rs : Rows), vs = [.ref a, .ref b] ∧ a ≠ b ∧ H a = some (.dK (kvR rs)) ∧ H b = some (.dK (kvR rs)) ∧ (ksR rs).Nodup ∧ rs.length < 64 ∧ (∀ s ∈ ksR rs, PyData.strOk s = true) ∧ ∀ H', Same H H' → Q (.bl true) H'
theorem ok_samed (T : Txt K mg A) : FnOk P w K mg base CX0 2 A.a__law_same_dict A.d__law_same_dict P__law_same_dict spSameD := by
  have G__law_same : FnOk P w K mg base CX0 1 A.a__law_same A.d__law_same P__law_same (spSame K 1) := ok_same T 1
  refine T.f__law_same_dict.ok sc__law_same_dict (fun vs H Q E h => ?_) (fun cdv A' outer s H vs Q E hr h => ?_)
  · obtain ⟨a, b, rs, rfl, _⟩ := h
    rfl
  · obtain ⟨a, b, rs, rfl, hab, ha, hb, nd, hl, hok, k⟩ := h
    refine ⟨_, (pss_cons (ps_if (PW.pt (pw_or (pt_not (pt_val (pe_callB call_isi (by rfl) T.isinstance (by decide +kernel) (pa_cons (pv 0) (pa_cons (pe_bltn (v := .ty "dict") (u := .type "dict") (by rfl) T.dict (by decide +kernel) rfl) pa_nil))))) (pw_or1 (pt_cmpR (op_neD hr.units) (pe_callTy (call_listD rfl) (by rfl) T.list (by decide +kernel) (pa_cons (pv 0) pa_nil)) (pe_callTy (call_listD rfl) (by rfl) T.list (by decide +kernel) (pa_cons (pv 1) pa_nil)) (nomark _)))))
 (pss_one (ps_ret pe_bl))
 pss_nil)
 (pss_one (ps_ret (pe_lock (pe_callB (cr_all rfl) (by rfl) T.all (by decide +kernel) (pa_cons (pe_lc (own := [("_law_key", 2)]) (g := gName 2) (by rfl) sc__law_same_dict.nd (pi_keys (pv 1)) (blkOk_by (N := N__law_same_dict) (sc := defScope s__law_same_dict) (by decide +kernel)) (fun _ _ _ _ _ => pg_name (i := 2) sc__law_same_dict.nd rfl (Or.inl rfl)) (fun _ _ _ _ _ => pts_nil) (fun _ _ _ _ _ => (pe_call G__law_same (hr.mono (by omega)) (by rfl) T.g__law_same T.f__law_same.kp T.b__law_same .nil pass0 (pa_cons (pe_dget (hu_of hr) (pv 0) (pv 2) (fun _ _ => rfl)) (pa_cons (pe_dget (hu_of hr) (pv 1) (pv 2) (fun _ _ => rfl)) pa_nil))))) pa_nil)))))), ?_⟩
    have ek : ((kvR rs).map fun kv => kV kv.1) = (ksR rs).map V.str := by simp [kvR, ksR, kV]
    refine ⟨_, rfl, _, _, .type "dict", _, true, rfl, .ty _, .base (.dK ha), kit_ty (by decide +kernel), _, rfl, iteF ?_⟩
    refine ⟨_, rfl, a, _, rfl, .inl ha, fun l nl => ?_⟩
    have s1 : Same H (upd H l (.lst ((kvR rs).map fun kv => kV kv.1))) := Same.new nl
    refine ⟨_, rfl, b, _, rfl, .inl (s1 _ _ hb), fun m nm => ?_⟩
    have s2 : Same H (upd (upd H l (.lst ((kvR rs).map fun kv => kV kv.1))) m (.lst ((kvR rs).map fun kv => kV kv.1))) := s1.trans (Same.new nm)
    have h1 : upd (upd H l (.lst ((kvR rs).map fun kv => kV kv.1))) m (.lst ((kvR rs).map fun kv => kV kv.1)) l = some (.lst ((ksR rs).map V.str)) := by rw [← ek]; exact Same.new nm _ _ upd_same
    have h2 : upd (upd H l (.lst ((kvR rs).map fun kv => kV kv.1))) m (.lst ((kvR rs).map fun kv => kV kv.1)) m = some (.lst ((ksR rs).map V.str)) := by rw [← ek]; exact upd_same
    generalize upd (upd H l (.lst ((kvR rs).map fun kv => kV kv.1))) m (.lst ((kvR rs).map fun kv => kV kv.1)) = H2 at s2 h1 h2 ⊢
    refine ⟨.list ((ksR rs).map PyData.str), .list ((ksR rs).map PyData.str), .lst (SqL.of h1) (dpStrs _), .lst (SqL.of h2) (dpStrs _), strs_shaped hok, strs_shaped hok, _, rfl, ?_⟩
    rw [eqv_strs_refl]
    refine iteF ?_
    refine ⟨b, _, s2 _ _ hb, trivial, fun od => ?_⟩
    have ha2 : upd H2 b (.frz od (.dK (kvR rs))) a = some (.dK (kvR rs)) := by rw [upd_ne hab]; exact s2 _ _ ha
    have hb2 : upd H2 b (.frz od (.dK (kvR rs))) b = some (.frz od (.dK (kvR rs))) := upd_same
    refine ⟨_, rfl, b, od, rfl, .inl ⟨kvR rs, upd_same, fun D hD => lc_it walk_keys (fun i H' => Same (upd H2 b (.frz od (.dK (kvR rs)))) H' ∧ H' D = some (.lst ((List.replicate i true).map V.bl))) ⟨Same.new hD, upd_same⟩ (fun i H' _ z => z.1 _ _ upd_same) ?_ (fun H' z => ?_)⟩⟩
    · rintro i x H' H'' hi ⟨s3, hD'⟩ ⟨rfl, key, v, hk, rfl⟩
      obtain ⟨c, d, rfl, rfl, hr2⟩ := kvR_at hk
      have hm := List.mem_of_getElem? hr2
      refine ⟨rfl, _, rfl, _, rfl, a, .str d, rfl, .inl ⟨kvR rs, .inr c, .inl (s3 _ _ ha2), rfl, (valR nd hm).symm⟩, _, rfl, _, rfl, b, .str d, rfl, .inl ⟨kvR rs, .inr c, .inr ⟨od, s3 _ _ hb2⟩, rfl, (valR nd hm).symm⟩, _, _, .str d, rfl, .str d, .str d, by show PyData.depth (.str d) < 1; simp [PyData.depth], rfl, fun H3 s4 => ?_⟩
      refine ⟨_, s4 _ _ hD', by rw [List.length_map, List.length_replicate]; rw [kvR_len] at hi; exact Nat.lt_of_lt_of_le (show i < 64 by omega) (by decide), ?_, ?_⟩
      · exact fun b u e => by rw [upd_ne (ne_of_none e hD)]; exact s4 _ _ (s3 _ _ e)
      · rw [upd_same, List.replicate_succ', List.map_append]; rfl
    · obtain ⟨s3, hD'⟩ := z
      refine ⟨D, _, rfl, SqL.of hD', s3 _ _ hb2, ?_⟩
      rw [all_true]
      refine k _ fun x u e => ?_
      by_cases hx : x = b
      · subst hx; rw [hb] at e; cases e; exact upd_same
      · rw [upd_ne hx]; exact s3 _ _ (by rw [upd_ne hx]; exact s2 _ _ e)
/-- the law's own way -/
def spWayL : Sp := fun vs H Q _ => ∃ (d : Addr) (rs : Rows) (nm : Str) (ws : List Str), vs = [.ref d, .str nm] ∧ H d = some (.dK (kvR rs)) ∧ (ksR rs).Nodup ∧ Way rs nm ws ∧ ∀ l H', Same H H' → H' l = some (.lst (ws.reverse.map V.str)) → Q (.ref l) H'
theorem ok_wayl (T : Txt K mg A) : FnOk P w K mg base CX0 1 A.a__law_way A.d__law_way P__law_way spWayL := by
  refine T.f__law_way.ok sc__law_way (fun vs H Q E h => ?_) (fun cdv A' outer s H vs Q E hr h => ?_)
  · obtain ⟨d, rs, nm, ws, rfl, _⟩ := h
    rfl
  · obtain ⟨d, rs, nm, ws, rfl, hd, nd, ⟨h, m, pa, hl⟩, k⟩ := h
    refine ⟨_, (pss_cons (ps_par (i := 2) (j := 3) (by rfl) sc__law_way.nd rfl rfl (by decide) rfl rfl (pa_cons (pe_lst pa_nil) (pa_cons (pe_dget (hu_of hr) (pv 0) (pv 1) (fun _ _ => rfl)) pa_nil)) (by rfl))
 (pss_cons (ps_while PassesOwn.never (pt_cmpR op_ne (pv 3) pe_str (nomark _))
 (pss_one (ps_par (i := 2) (j := 3) (by rfl) sc__law_way.nd rfl rfl (by decide) rfl rfl (pa_cons (pe_op op_cat (pe_lst (pa_cons (pv 3) pa_nil)) (pv 2)) (pa_cons (pe_dget (hu_of hr) (pv 0) (pv 3) (fun _ _ => rfl)) pa_nil)) (by rfl))))
 (pss_one (ps_ret (pv 2))))), ?_⟩
    refine ⟨Nat.zero_le _, fun l nl => ?_⟩
    have s0 : Same H (upd H l (.lst [])) := Same.new nl
    refine ⟨_, rfl, _, rfl, d, _, rfl, .inl ⟨kvR rs, .inr nm, .inl (s0 _ _ hd), rfl, (valR nd m).symm⟩, _, _, rfl, ?_⟩
    refine while_ex (fun mm σ' H' => ∃ (as bs : List Str) (h : Str) (p : Addr), σ' = [some (.ref d), some (.str nm), some (.ref p), some (.str h)] ∧ Same H H' ∧ H' p = some (.lst (as.reverse.map V.str)) ∧ as ++ bs = ws ∧ Path rs h bs ∧ mm = bs.length)
        (fun σ' H' => ∃ (u : V) (p : Addr), σ' = [some (.ref d), some (.str nm), some (.ref p), some u] ∧ Same H H' ∧ H' p = some (.lst (ws.reverse.map V.str)))
        ⟨[], ws, h, l, rfl, s0, upd_same, rfl, pa, rfl⟩ (fun nx hnx => ?_) ?_
    · rintro mm σ' H' ⟨as, bs, h, p, rfl, s1, hp1, hab, pb, rfl⟩
      refine ⟨_, rfl, rfl, _, rfl, ite2 (fun c1 => ?_) (fun c1 => ?_)⟩
      · cases pb with
        | clock => cases c1
        | @step _ h2 bs' ne m2 r =>
          refine ⟨_, fun _ _ z => z, ?_⟩
          have la : as.length < 64 := by
            have := congrArg List.length hab
            rw [List.length_append, List.length_cons] at this
            omega
          refine ⟨_, rfl, by show 1 ≤ sizeLine; decide, fun e ne => ?_⟩
          have s2 : Same H (upd H' e (.lst [.str h])) := s1.trans (Same.new ne)
          refine ⟨_, rfl, _, _, _, _, rfl, rfl, upd_same, Same.new ne _ _ hp1, by show _ ≤ sizeLine; simp only [List.length_map, List.length_reverse, List.length_singleton]; exact Nat.le_trans (show 1 + as.length ≤ 65 by omega) (by decide), fun t nt => ?_⟩
          have s3 : Same H (upd (upd H' e (.lst [.str h])) t (.lst ([.str h] ++ as.reverse.map V.str))) := s2.trans (Same.new nt)
          refine ⟨_, rfl, _, rfl, d, _, rfl, .inl ⟨kvR rs, .inr h, .inl (s3 _ _ hd), rfl, (valR nd m2).symm⟩, _, _, rfl, ?_⟩
          exact ⟨bs'.length, Nat.lt_succ_self _, as ++ [h], bs', h2, t, rfl, s3, by rw [upd_same, List.reverse_append, List.map_append]; rfl, by rw [List.append_assoc]; exact hab, r, rfl⟩
      · cases pb with
        | clock =>
          rw [List.append_nil] at hab
          subst hab
          exact hnx _ _ ⟨_, p, rfl, s1, hp1⟩
        | step ne m2 r => exact absurd (by rw [decide_eq_false (fun z => ne (V.str.inj z))]; rfl) c1
    · rintro σ' H' ⟨u, p, rfl, s1, hp1⟩
      exact ⟨_, rfl, k p H' s1 hp1⟩
end
end K5
set_option Elab.async false
set_option linter.all false
set_option maxRecDepth 100000
set_option maxHeartbeats 4000000
namespace K5
open PySem L2
local macro_rules | `(tactic| walk_at "rd1") => `(tactic| first
  | refine ⟨_, _, rfl, rfl, ?_⟩
  | refine ⟨_, _, _, _, rfl, rfl, SqL.of (by assumption), rfl, ?_⟩
  | refine ⟨_, _, _, _, rfl, rfl, (by assumption), rfl, ?_⟩
  | refine .inl ⟨_, rfl, ?_⟩
  | refine ⟨_, rfl, ?_⟩
  | refine ⟨(by unfold CMul; omega), ?_⟩
  | refine ⟨(by unfold CPow; omega), ?_⟩
  | refine ⟨(by (try dsimp only); omega), ?_⟩
  | refine ⟨(by unfold CDiv; omega), ?_⟩
  | fail "rd1")
local macro_rules | `(tactic| walk_at "rd") => `(tactic| repeat' (walk_at "rd1"))
section
variable {P : Program} {w : World} {K : PySem.W.Frag} {mg : Str → Option Value} {base : Heap} {A : Ad}

def eqR (r1 r2 : Rows) : Bool := r1.length == r2.length && Own.eqKv (kvR r1) (kvR r2)
theorem kvR_flat {rs : Rows} : ∀ p ∈ kvR rs, flatV p.2 = true := fun p hp => by
  obtain ⟨r, _, rfl⟩ := List.mem_map.mp hp
  rfl
theorem kvR_flatV {rs : Rows} : ∀ k u, valV (kvR rs) k = some u → flatV u = true := fun k u h => by
  induction rs with
  | nil => cases h
  | cons r rs ih =>
    have h' : valV ((.inr r.1, .str r.2) :: kvR rs) k = some u := h
    by_cases e : (Sum.inr r.1 : Key) = k
    · rw [valV_pos e] at h'; cases h'; rfl
    · rw [valV_neg e] at h'; exact ih h'
def spHEq (C : Addr) : Sp := fun vs H Q _ => ∃ (p q : Addr) (rs : Rows) (y : V), vs = [.ref p, y] ∧ HgAt C H p q rs ∧
  ((∃ p2 q2 rs2, y = .ref p2 ∧ HgAt C H p2 q2 rs2 ∧ Q (.bl (eqR rs rs2)) H) ∨ (y = .non ∧ Q (.bl false) H) ∨ ∃ d kvs, y = .ref d ∧ H d = some (.dK kvs) ∧ Q (.bl false) H)
theorem ok_heq (T : Txt K mg A) : FnOk P w K mg base CX0 1 A.a_Hanging___eq__ A.d_Hanging___eq__ P_Hanging___eq__ (spHEq A.a_Hanging) := by
  refine T.f_Hanging___eq__.ok sc_Hanging___eq__ (fun vs H Q E h => ?_) (fun cdv A' outer s H vs Q E hr h => ?_)
  · obtain ⟨p, q, rs, y, rfl, _⟩ := h
    rfl
  · obtain ⟨p, q, rs, y, rfl, ⟨⟨dx, hp⟩, hq⟩, h⟩ := h
    refine ⟨_, (pss_one (ps_ret (pe_and (pe_callB call_isi (by rfl) T.isinstance (by decide +kernel) (pa_cons (pv 1) (pa_cons (pe_glob (v := .ref A.a_Hanging) (by rfl) T.g_Hanging rfl) pa_nil))) (pe_one (pe_cmpR (Own.op_eqDF hr.units) (pe_fld (pv 0) rfl) (pe_fld (pv 1) rfl) (nomark _)))))), ?_⟩
    rcases h with ⟨p2, q2, rs2, rfl, ⟨⟨dx2, hp2⟩, hq2⟩, k⟩ | ⟨rfl, k⟩ | ⟨d, kvs, rfl, hd, k⟩
    · refine ⟨_, rfl, _, _, .ref A.a_Hanging, _, true, rfl, .own _, .base (.ins hp2 T.cl T.aC T.aG T.aT T.mO), T.kHH, _, rfl, iteT ?_⟩
      refine ⟨_, rfl, p, A.a_Hanging, dx, _, _, rfl, hp, T.cl, T.nH, rfl, _, rfl, p2, A.a_Hanging, dx2, _, _, rfl, hp2, T.cl, T.nH, rfl, ?_⟩
      refine ⟨q, q2, kvR rs, kvR rs2, rfl, rfl, hq, hq2, kvR_flat, kvR_flatV, ?_⟩
      rw [kvR_len, kvR_len]
      exact k
    · exact ⟨_, rfl, _, _, .type "NoneType", _, false, rfl, .own _, .base .non, T.kHN, _, rfl, iteF k⟩
    · exact ⟨_, rfl, _, _, .type "dict", _, false, rfl, .own _, .base (.dK hd), T.kHD, _, rfl, iteF k⟩
end
end K5
set_option Elab.async false
set_option linter.all false
set_option maxRecDepth 100000
set_option maxHeartbeats 4000000
namespace K5
open PySem L2
local macro_rules | `(tactic| walk_at "rd1") => `(tactic| first
  | refine ⟨_, _, rfl, rfl, ?_⟩
  | refine ⟨_, _, _, _, rfl, rfl, SqL.of (by assumption), rfl, ?_⟩
  | refine ⟨_, _, _, _, rfl, rfl, (by assumption), rfl, ?_⟩
  | refine .inl ⟨_, rfl, ?_⟩
  | refine ⟨_, rfl, ?_⟩
  | refine ⟨(by unfold CMul; omega), ?_⟩
  | refine ⟨(by unfold CPow; omega), ?_⟩
  | refine ⟨(by (try dsimp only); omega), ?_⟩
  | refine ⟨(by unfold CDiv; omega), ?_⟩
  | fail "rd1")
local macro_rules | `(tactic| walk_at "rd") => `(tactic| repeat' (walk_at "rd1"))
section
variable {P : Program} {w : World} {K : PySem.W.Frag} {mg : Str → Option Value} {base : Heap} {A : Ad}

theorem inSeqOf {X : Cx} {K : PySem.W.Frag} (h : X.K = K) : OpR X (compareOp .In) (rIn K false) := h ▸ op_in_seq
def looksR (rs : Rows) : List Str := (ksR rs).filter fun k => decide (k ∈ rs.map (·.2))
def spLooks (C : Addr) : Sp := fun vs H Q _ => ∃ (p q : Addr) (rs : Rows), vs = [.ref p] ∧ HgAt C H p q rs ∧ rs.length < 64 ∧ ∀ l H', Same H H' → H l = none → H' l = some (.lst ((looksR rs).map V.str)) → Q (.ref l) H'
theorem ok_looks (T : Txt K mg A) : FnOk P w K mg base CX0 1 A.a_Hanging_looks A.d_Hanging_looks P_Hanging_looks (spLooks A.a_Hanging) := by
  refine T.f_Hanging_looks.ok sc_Hanging_looks (fun vs H Q E h => ?_) (fun cdv A' outer s H vs Q E hr h => ?_)
  · obtain ⟨p, q, rs, rfl, _⟩ := h
    rfl
  · obtain ⟨p, q, rs, rfl, ⟨⟨dx, hp⟩, hq⟩, hl, k⟩ := h
    refine ⟨_, (pss_cons (ps_set (i := 1) sc_Hanging_looks.nd rfl (Or.inr rfl) (Own.pe_listVals rfl (by rfl) T.list (pe_fld (pv 0) rfl)))
 (pss_one (ps_ret (pe_lock (pe_lc (own := [("name", 2)]) (g := gName 2) (by rfl) sc_Hanging_looks.nd (pi_keys (pe_fld (pv 0) rfl)) (blkOk_by (N := N_Hanging_looks) (sc := defScope s_Hanging_looks) (by decide +kernel)) (fun _ _ _ _ _ => pg_name (i := 2) sc_Hanging_looks.nd rfl (Or.inl rfl)) (fun _ _ _ _ _ => pts_one (pt_cmpR (inSeqOf (K := K) rfl) (pv 2) (pv 1) (by rfl))) (fun _ _ _ _ _ => (pv 2))))))), ?_⟩
    refine ⟨_, rfl, p, A.a_Hanging, dx, _, _, rfl, hp, T.cl, T.nH, rfl, q, _, rfl, hq, fun v nv => ?_⟩
    have s1 : Same H (upd H v (.lst ((kvR rs).map (·.2)))) := Same.new nv
    have hv : upd H v (.lst ((kvR rs).map (·.2))) v = some (.lst ((kvR rs).map (·.2))) := upd_same
    generalize upd H v (.lst ((kvR rs).map (·.2))) = H1 at s1 hv ⊢
    refine ⟨q, _, s1 _ _ hq, trivial, fun od => ?_⟩
    have nqp : q ≠ p := fun e => by rw [e, hp] at hq; cases hq
    have nqv : q ≠ v := ne_of_none hq nv
    refine ⟨_, rfl, p, A.a_Hanging, dx, _, _, rfl, (upd_ne nqp.symm).trans (s1 _ _ hp), T.cl, T.nH, rfl, q, od, rfl, .inl ⟨kvR rs, upd_same, fun D hD => lc_it walk_keys (fun i H' => Same (upd H1 q (.frz od (.dK (kvR rs)))) H' ∧ H' D = some (.lst ((((ksR rs).take i).filter fun k => decide (k ∈ rs.map (·.2))).map V.str))) ⟨Same.new hD, upd_same⟩ (fun i H' _ z => z.1 _ _ upd_same) ?_ (fun H' z => ?_)⟩⟩
    · rintro i x H' H'' hi ⟨s3, hD'⟩ ⟨rfl, key, w, hk, rfl⟩
      obtain ⟨a, b, rfl, rfl, hr2⟩ := kvR_at hk
      have ea : (ksR rs)[i]? = some a := by unfold ksR; rw [List.getElem?_map, hr2]; rfl
      have hv2 := s3 _ _ ((upd_ne nqv.symm).trans hv)
      have fl : ((kvR rs).map (·.2)).all flatV = true := by
        rw [List.all_eq_true]
        intro z hz
        obtain ⟨pr, hpr, rfl⟩ := List.mem_map.mp hz
        exact kvR_flat pr hpr
      have inE : inV (.str a) ((kvR rs).map (·.2)) = decide (a ∈ rs.map (·.2)) := by
        unfold inV
        rw [Bool.eq_iff_iff, List.any_eq_true, decide_eq_true_iff]
        constructor
        · rintro ⟨y, hy, e⟩
          obtain ⟨pr, hpr, rfl⟩ := List.mem_map.mp hy
          obtain ⟨r, hr3, rfl⟩ := List.mem_map.mp hpr
          have e' : (r.2 == a) = true := e
          exact List.mem_map.mpr ⟨r, hr3, eq_of_beq e'⟩
        · intro m
          obtain ⟨r, hr3, e⟩ := List.mem_map.mp m
          exact ⟨.str a, List.mem_map.mpr ⟨(.inr r.1, .str r.2), List.mem_map.mpr ⟨r, hr3, rfl⟩, by rw [← e]⟩, by show (a == a) = true; exact beq_self_eq_true a⟩
      refine ⟨rfl, _, rfl, _, rfl, v, _, rfl, .inl (SqL.of hv2), rfl, fl, _, rfl, ?_⟩
      have et : ((ksR rs).take (i + 1)).filter (fun k => decide (k ∈ rs.map (·.2))) = ((ksR rs).take i).filter (fun k => decide (k ∈ rs.map (·.2))) ++ (if a ∈ rs.map (·.2) then [a] else []) := by
        rw [List.take_succ, ea, List.filter_append]
        congr 1
        by_cases e : a ∈ rs.map (·.2) <;> simp [e]
      refine ite2 (fun c1 => ?_) (fun c1 => ?_)
      · have m := of_decide_eq_true (inE.symm.trans c1)
        refine ⟨_, rfl, _, hD', ?_, ?_, ?_⟩
        · rw [List.length_map]
          exact Nat.lt_of_le_of_lt (Nat.le_trans (List.length_filter_le _ _) (by rw [List.length_take, ksR_len]; omega)) (show 64 < sizeLine by decide)
        · exact fun b u e => by rw [upd_ne (ne_of_none e hD)]; exact s3 _ _ e
        · rw [upd_same, et, if_pos m, List.map_append]; rfl
      · have m : a ∉ rs.map (·.2) := fun z => c1 (inE.trans (decide_eq_true z))
        exact ⟨s3, by rw [et, if_neg m, List.append_nil]; exact hD'⟩
    · obtain ⟨s3, hD'⟩ := z
      rw [kvR_len, ← ksR_len, List.take_length] at hD'
      have hD0 : H1 D = none := by
        have nq : D ≠ q := fun e => by rw [e, upd_same] at hD; cases hD
        rw [upd_ne nq] at hD; exact hD
      have nDq : D ≠ q := fun e => by rw [e, s1 _ _ hq] at hD0; cases hD0
      refine ⟨s3 _ _ upd_same, k D _ (fun x u e => ?_) (s1.free hD0) (by rw [upd_ne nDq]; exact hD')⟩
      by_cases hx : x = q
      · subst hx; rw [upd_same]; rw [hq] at e; exact e
      · rw [upd_ne hx]; exact s3 _ _ (by rw [upd_ne hx]; exact s1 _ _ e)
end
end K5
set_option Elab.async false
set_option linter.all false
set_option maxRecDepth 100000
set_option maxHeartbeats 4000000
namespace K5
open PySem L2
local macro_rules | `(tactic| walk_at "rd1") => `(tactic| first
  | refine ⟨_, _, rfl, rfl, ?_⟩
  | refine ⟨_, _, _, _, rfl, rfl, SqL.of (by assumption), rfl, ?_⟩
  | refine ⟨_, _, _, _, rfl, rfl, (by assumption), rfl, ?_⟩
  | refine .inl ⟨_, rfl, ?_⟩
  | refine ⟨_, rfl, ?_⟩
  | refine ⟨(by unfold CMul; omega), ?_⟩
  | refine ⟨(by unfold CPow; omega), ?_⟩
  | refine ⟨(by (try dsimp only); omega), ?_⟩
  | refine ⟨(by unfold CDiv; omega), ?_⟩
  | fail "rd1")
local macro_rules | `(tactic| walk_at "rd") => `(tactic| repeat' (walk_at "rd1"))
section
variable {P : Program} {w : World} {K : PySem.W.Frag} {mg : Str → Option Value} {base : Heap} {A : Ad}

/-! ### ranks by place, and ascending rows -/
theorem idx_of_take {ks : List Str} (nd : ks.Nodup) {i : Nat} {k : Str} (h : ks[i]? = some k) : ks.idxOf k = i := by
  obtain ⟨hi, e⟩ := List.getElem?_eq_some_iff.mp h
  have hm : k ∈ ks := by rw [← e]; exact List.getElem_mem hi
  have l1 := List.idxOf_lt_length_of_mem hm
  have e1 : ks[ks.idxOf k] = ks[i] := by rw [List.getElem_idxOf]; exact e.symm
  exact (List.getElem_inj nd).mp e1
theorem idx_lt {ks : List Str} (nd : ks.Nodup) {i : Nat} {h : Str} (m : h ∈ ks.take i) : ks.idxOf h < i := by
  obtain ⟨j, hj, e⟩ := List.getElem_of_mem m
  rw [List.length_take] at hj
  rw [List.getElem_take] at e
  have q : ks[j]? = some h := by rw [List.getElem?_eq_getElem (by omega), e]
  rw [idx_of_take nd q]
  omega
theorem ROk.tree {rows : Rows} (nd : (ksR rows).Nodup) (nm : ∀ s ∈ ksR rows, Nm s ∧ PyData.strOk s = true) (len : rows.length < 64) (t : Tree rows) : ROk (fun s => (ksR rows).idxOf s) rows := by
  refine ⟨nd, nm, len, fun k h m => ?_, fun s m => Nat.lt_trans (List.idxOf_lt_length_of_mem m) (by rw [ksR_len]; exact len)⟩
  obtain ⟨i, hi, e⟩ := List.getElem_of_mem m
  have q : rows[i]? = some (k, h) := by rw [List.getElem?_eq_getElem hi, e]
  refine (t i k h q).imp_right fun m2 => ?_
  have m3 : h ∈ (ksR rows).take i := by
    unfold ksR at m2 ⊢
    rw [← List.map_take]; exact m2
  refine ⟨List.mem_of_mem_take m3, ?_⟩
  show (ksR rows).idxOf h < (ksR rows).idxOf k
  have qk : (ksR rows)[i]? = some k := by unfold ksR; rw [List.getElem?_map, q]; rfl
  rw [idx_of_take nd qk]
  exact idx_lt nd m3
theorem sle_of_rising : ∀ {p : Str} {l : List Str}, PyProof.Rows.risingS p l = true → (p :: l).Pairwise sle
  | _, [], _ => List.pairwise_singleton ..
  | p, x :: r, h => by
    unfold PyProof.Rows.risingS at h
    rw [Bool.and_eq_true] at h
    have ih := sle_of_rising h.2
    have hx : sle p x := fun z => by
      have e : PySem.Spec.ltCps x.cps.toList p.cps.toList = true := by rw [PyProof.Rows.ltCps_eq]; exact decide_eq_true z
      rw [e] at h; cases h.1
    refine List.pairwise_cons.mpr ⟨fun y hy => ?_, ih⟩
    rcases List.mem_cons.mp hy with e | hy
    · rw [e]; exact hx
    · exact sle_trans hx ((List.pairwise_cons.mp ih).1 y hy)
theorem sle_sorted {l : List Str} (h : PyProof.Rows.sortedS l = true) : l.Pairwise sle := by
  cases l with
  | nil => exact List.Pairwise.nil
  | cons x r => exact sle_of_rising h
theorem sle_anti {x y : Str} (a : sle x y) (b : sle y x) : x = y := by
  obtain ⟨x⟩ := x
  obtain ⟨y⟩ := y
  have e : x.toList = y.toList := List.le_antisymm (List.not_lt.mp a) (List.not_lt.mp b)
  rw [Array.toList_inj.mp e]
theorem asc_eq {xs ys : List Str} (p : xs.Perm ys) (hx : PyProof.Rows.sortedS xs = true) (hy : ys.Pairwise sle) : xs = ys :=
  p.eq_of_pairwise (fun _ _ _ _ a b => sle_anti a b) (sle_sorted hx) hy
/-- the rows in the order of these keys -/
def rowsAt (rows : Rows) (ys : List Str) : Rows := ys.map fun y => (y, match valV (kvR rows) (.inr y) with | some (.str h) => h | _ => y)
theorem ksR_at (rows : Rows) (ys : List Str) : ksR (rowsAt rows ys) = ys := by unfold ksR rowsAt; rw [List.map_map]; exact List.map_id _
theorem asc_rows {rows rs : Rows} (nd : (ksR rows).Nodup) (a : Asc rows rs) : rs = rowsAt rows (ksR rs) := by
  have key : ∀ l : Rows, (∀ k h, (k, h) ∈ l → (k, h) ∈ rows) → l = rowsAt rows (ksR l) := fun l => by
    induction l with
    | nil => intro _; rfl
    | cons r l ih =>
      intro hm
      have e := ih fun k h m => hm k h (List.mem_cons_of_mem _ m)
      have m : (r.1, r.2) ∈ rows := hm _ _ (List.mem_cons_self ..)
      show r :: l = (r.1, match valV (kvR rows) (.inr r.1) with | some (.str h) => h | _ => r.1) :: rowsAt rows (ksR l)
      rw [valR nd m, ← e]
  exact key rs a.mem
/-! ### iter(hanging) -/
def spHIter (C : Addr) (n : Nat) : Sp := fun vs H Q _ => ∃ (p dx q : Addr) (od : Obj) (kvs : List (Key × V)), vs = [.ref p] ∧ H p = some (.ins C dx [("hooks", .ref q)]) ∧ H q = some (.frz od (.dK kvs)) ∧ ∀ it, H it = none → n ≤ it → Q (.ref it) (upd H it (Own.KiO q od it))
theorem ok_hiter (T : Txt K mg A) : FnOk P w K mg base CX0 1 A.a_Hanging___iter__ A.d_Hanging___iter__ P_Hanging___iter__ (spHIter A.a_Hanging base.objs.size) := by
  refine T.f_Hanging___iter__.ok sc_Hanging___iter__ (fun vs H Q E h => ?_) (fun cdv A' outer s H vs Q E hr h => ?_)
  · obtain ⟨p, dx, q, od, kvs, rfl, _⟩ := h
    rfl
  · obtain ⟨p, dx, q, od, kvs, rfl, hp, hq, k⟩ := h
    refine ⟨_, (pss_one (ps_ret (pe_callB Own.call_iterD (by rfl) T.iter (by decide +kernel) (pa_cons (pe_fld (pv 0) rfl) pa_nil)))), ?_⟩
    exact ⟨_, rfl, p, A.a_Hanging, dx, _, _, rfl, hp, T.cl, T.nH, rfl, q, od, kvs, rfl, hq, k⟩
end
end K5
set_option Elab.async false
set_option linter.all false
set_option maxRecDepth 100000
set_option maxHeartbeats 4000000
namespace K5
open PySem L2
local macro_rules | `(tactic| walk_at "rd1") => `(tactic| first
  | refine ⟨_, _, rfl, rfl, ?_⟩
  | refine ⟨_, _, _, _, rfl, rfl, SqL.of (by assumption), rfl, ?_⟩
  | refine ⟨_, _, _, _, rfl, rfl, (by assumption), rfl, ?_⟩
  | refine .inl ⟨_, rfl, ?_⟩
  | refine ⟨_, rfl, ?_⟩
  | refine ⟨(by unfold CMul; omega), ?_⟩
  | refine ⟨(by unfold CPow; omega), ?_⟩
  | refine ⟨(by (try dsimp only); omega), ?_⟩
  | refine ⟨(by unfold CDiv; omega), ?_⟩
  | fail "rd1")
local macro_rules | `(tactic| walk_at "rd") => `(tactic| repeat' (walk_at "rd1"))
section
variable {P : Program} {w : World} {K : PySem.W.Frag} {mg : Str → Option Value} {base : Heap} {A : Ad}

theorem fnOr {CX : CXT} {k : Nat} {f : Addr} {fd : FuncData} {ps : List Str} {sp1 sp2 : Sp} (F1 : FnOk P w K mg base CX k f fd ps sp1) (F2 : FnOk P w K mg base CX k f fd ps sp2) : FnOk P w K mg base CX k f fd ps (fun vs H Q E => sp1 vs H Q E ∨ sp2 vs H Q E) :=
  ⟨fun vs H Q E h => h.elim (F1.len vs H Q E) (F2.len vs H Q E), fun A outer s H args us vs Q E hr e b v h => h.elim (F1.run A outer s H args us vs Q E hr e b v) (F2.run A outer s H args us vs Q E hr e b v)⟩
theorem sd_symm {n : Nat} {H : Hp} {x y : V} (h : SD K n H x y) : SD K n H y x :=
  h.elim (fun ⟨d, a, b, c⟩ => .inl ⟨d, b, a, c⟩) fun ⟨a, b, e1, e2, h1, h2⟩ => .inr ⟨b, a, e2, e1, h2, h1⟩
theorem sd_up {n : Nat} {H H' : Hp} {x y : V} (h : SD K n H x y) (s : Same H H') : SD K n H' x y :=
  h.elim (fun ⟨d, a, b, c⟩ => .inl ⟨d, dpSame s a, dpSame s b, c⟩) fun ⟨a, b, e1, e2, h1, h2⟩ => .inr ⟨a, b, e1, e2, s _ _ h1, s _ _ h2⟩
def spEmp : Sp := fun vs H Q _ => ∃ (a b : Addr), vs = [.ref a, .ref b] ∧ H a = some (.dK []) ∧ H b = some (.dK []) ∧ ∀ H', Same H H' → Q (.bl true) H'
theorem ok_emp (T : Txt K mg A) : FnOk P w K mg base CX0 1 A.a__law_same A.d__law_same P__law_same spEmp := by
  have G__law_same : FnOk P w K mg base CX0 0 A.a__law_same A.d__law_same P__law_same (fun _ _ _ _ => False) := no_fn fun _ _ _ _ h => h
  refine T.f__law_same.ok sc__law_same (fun vs H Q E h => ?_) (fun cdv A' outer s H vs Q E hr h => ?_)
  · obtain ⟨a, b, rfl, _⟩ := h
    rfl
  · obtain ⟨a, b, rfl, ha, hb, k⟩ := h
    refine ⟨_, (pss_cons (ps_if (pt_val (pe_callB call_isiT (by rfl) T.isinstance (by decide +kernel) (pa_cons (pv 1) (pa_cons (pe_tup (pa_cons (pe_bltn (v := .ty "list") (u := .type "list") (by rfl) T.list (by decide +kernel) rfl) (pa_cons (pe_bltn (v := .ty "tuple") (u := .type "tuple") (by rfl) T.tuple (by decide +kernel) rfl) pa_nil))) pa_nil))))
 (pss_cons (ps_if (PW.pt (pw_or (pt_cmpR op_ne (pe_callB call_isi (by rfl) T.isinstance (by decide +kernel) (pa_cons (pv 0) (pa_cons (pe_bltn (v := .ty "list") (u := .type "list") (by rfl) T.list (by decide +kernel) rfl) pa_nil))) (pe_callB call_isi (by rfl) T.isinstance (by decide +kernel) (pa_cons (pv 1) (pa_cons (pe_bltn (v := .ty "list") (u := .type "list") (by rfl) T.list (by decide +kernel) rfl) pa_nil))) (nomark _)) (pw_or1 (pt_cmpR op_ne (pe_callB call_isi (by rfl) T.isinstance (by decide +kernel) (pa_cons (pv 0) (pa_cons (pe_bltn (v := .ty "tuple") (u := .type "tuple") (by rfl) T.tuple (by decide +kernel) rfl) pa_nil))) (pe_callB call_isi (by rfl) T.isinstance (by decide +kernel) (pa_cons (pv 1) (pa_cons (pe_bltn (v := .ty "tuple") (u := .type "tuple") (by rfl) T.tuple (by decide +kernel) rfl) pa_nil))) (nomark _)))))
 (pss_one (ps_ret pe_bl))
 pss_nil)
 (pss_one (ps_ret (pe_and (pe_cmpR op_eq (pe_callB call_len_seq (by rfl) T.len PySem.boot_len (pa_cons (pv 0) pa_nil)) (pe_callB call_len_seq (by rfl) T.len PySem.boot_len (pa_cons (pv 1) pa_nil)) (nomark _)) (pe_one (pe_callB (cr_all rfl) (by rfl) T.all (by decide +kernel) (pa_cons (pe_lc (own := [("_law_x", 2), ("_law_y", 3)]) (g := gTup K 2 (gCons (gName 2) (gCons (gName 3) gNil))) (by rfl) sc__law_same.nd (RZ.pi_zipA (by rfl) T.zip (pa_cons (pv 0) (pa_cons (pv 1) pa_nil))) (blkOk_by (N := N__law_same) (sc := defScope s__law_same) (by decide +kernel)) (fun _ _ _ _ _ => (pg_tup rfl (pgs_cons (pg_name (i := 2) sc__law_same.nd rfl (Or.inl rfl)) (pgs_cons (pg_name (i := 3) sc__law_same.nd rfl (Or.inl rfl)) pgs_nil)))) (fun _ _ _ _ _ => pts_nil) (fun _ _ _ _ _ => (pe_call G__law_same (hr.mono (by omega)) (by rfl) T.g__law_same T.f__law_same.kp T.b__law_same .nil pass0 (pa_cons (pv 2) (pa_cons (pv 3) pa_nil))))) pa_nil)))))))
 pss_nil)
 (pss_cons (ps_if (pt_val (pe_callB call_isi (by rfl) T.isinstance (by decide +kernel) (pa_cons (pv 1) (pa_cons (pe_bltn (v := .ty "int") (u := .type "int") (by rfl) T.int (by decide +kernel) rfl) pa_nil))))
 (pss_one (ps_ret (pe_and (pe_callB call_isi (by rfl) T.isinstance (by decide +kernel) (pa_cons (pv 0) (pa_cons (pe_bltn (v := .ty "int") (u := .type "int") (by rfl) T.int (by decide +kernel) rfl) pa_nil))) (pe_and (pe_cmpR op_eq (pe_callB call_isi (by rfl) T.isinstance (by decide +kernel) (pa_cons (pv 0) (pa_cons (pe_bltn (v := .ty "bool") (u := .type "bool") (by rfl) T.bool (by decide +kernel) rfl) pa_nil))) (pe_callB call_isi (by rfl) T.isinstance (by decide +kernel) (pa_cons (pv 1) (pa_cons (pe_bltn (v := .ty "bool") (u := .type "bool") (by rfl) T.bool (by decide +kernel) rfl) pa_nil))) (nomark _)) (pe_one (pe_cmpR (Own.op_eqDF hr.units) (pv 0) (pv 1) (nomark _)))))))
 pss_nil)
 (pss_one (ps_ret (pe_and (pe_cmpR op_isBl (pe_callB call_isiT (by rfl) T.isinstance (by decide +kernel) (pa_cons (pv 0) (pa_cons (pe_tup (pa_cons (pe_bltn (v := .ty "int") (u := .type "int") (by rfl) T.int (by decide +kernel) rfl) (pa_cons (pe_bltn (v := .ty "list") (u := .type "list") (by rfl) T.list (by decide +kernel) rfl) (pa_cons (pe_bltn (v := .ty "tuple") (u := .type "tuple") (by rfl) T.tuple (by decide +kernel) rfl) pa_nil)))) pa_nil))) pe_bl (nomark _)) (pe_one (pe_cmpR (Own.op_eqDF hr.units) (pv 0) (pv 1) (nomark _)))))))), ?_⟩
    refine ⟨_, rfl, by show 2 ≤ sizeLine; decide, fun p hp => ?_⟩
    have s1 : Same H (upd H p (.tup [.ty "list", .ty "tuple"])) := Same.new hp
    refine ⟨_, p, _, _, _, false, rfl, upd_same, .cons (.ty _) (.cons (.ty _) .nil), .base (.dK (s1 _ _ hb)), kit2 (a := "dict") (b := "list") (c := "tuple") (r := false) (s := false) (by decide +kernel) (by decide +kernel), _, rfl, iteF ?_⟩
    refine ⟨_, rfl, _, _, .type "dict", _, false, rfl, .ty _, .base (.dK (s1 _ _ hb)), kit_ty (by decide +kernel), _, rfl, iteF ?_⟩
    refine ⟨_, rfl, by show 3 ≤ sizeLine; decide, fun q hq => ?_⟩
    have s2 := s1.trans (Same.new (o := .tup [.ty "int", .ty "list", .ty "tuple"]) hq)
    refine ⟨_, q, _, _, _, false, rfl, upd_same, .cons (.ty _) (.cons (.ty _) (.cons (.ty _) .nil)), .base (.dK (s2 _ _ ha)), kit3 (a := "dict") (b := "int") (c := "list") (d := "tuple") (r := false) (s := false) (t := false) (by decide +kernel) (by decide +kernel) (by decide +kernel), _, _, rfl, rfl, _, rfl, iteT ⟨_, rfl, _, rfl, a, b, [], [], rfl, rfl, s2 _ _ ha, s2 _ _ hb, (by intro _ m; cases m), (by intro _ _ m; cases m), k _ s2⟩⟩
def spSX (K : PySem.W.Frag) (n : Nat) : Sp := fun vs H Q _ => ∃ (x y : V), vs = [x, y] ∧ SD K n H x y ∧ ∀ H', Same H H' → Q (.bl true) H'
theorem ok_sx (T : Txt K mg A) (n : Nat) : FnOk P w K mg base CX0 (n + 1) A.a__law_same A.d__law_same P__law_same (spSX K (n + 1)) :=
  (fnOr (ok_same T (n + 1)) ((ok_emp T).mono (by omega))).imp fun vs H Q E ⟨x, y, e, h, k⟩ => h.elim (fun ⟨d, a, b, c, d2⟩ => .inl ⟨x, y, d, e, a, b, c, d2, k⟩) fun ⟨a, b, e1, e2, h1, h2⟩ => .inr ⟨a, b, by rw [e, e1, e2], h1, h2, k⟩
/-- two pairs, the second things of which are the same -/
def spPair (K : PySem.W.Frag) (n : Nat) : Sp := fun vs H Q _ => ∃ (t1 t2 : Addr) (x y : V) (z : Str), vs = [.ref t1, .ref t2] ∧ H t1 = some (.tup [.str z, x]) ∧ H t2 = some (.tup [.str z, y]) ∧ SD K n H x y ∧ ∀ H', Same H H' → Q (.bl true) H'
theorem ok_pair (T : Txt K mg A) (n : Nat) : FnOk P w K mg base CX0 (n + 2) A.a__law_same A.d__law_same P__law_same (spPair K (n + 1)) := by
  have G__law_same : FnOk P w K mg base CX0 (n + 1) A.a__law_same A.d__law_same P__law_same (spSX K (n + 1)) := ok_sx T n
  refine T.f__law_same.ok sc__law_same (fun vs H Q E h => ?_) (fun cdv A' outer s H vs Q E hr h => ?_)
  · obtain ⟨t1, t2, x, y, z, rfl, _⟩ := h
    rfl
  · obtain ⟨t1, t2, x, y, z, rfl, h1, h2, hs, k⟩ := h
    refine ⟨_, (pss_cons (ps_if (pt_val (pe_callB call_isiT (by rfl) T.isinstance (by decide +kernel) (pa_cons (pv 1) (pa_cons (pe_tup (pa_cons (pe_bltn (v := .ty "list") (u := .type "list") (by rfl) T.list (by decide +kernel) rfl) (pa_cons (pe_bltn (v := .ty "tuple") (u := .type "tuple") (by rfl) T.tuple (by decide +kernel) rfl) pa_nil))) pa_nil))))
 (pss_cons (ps_if (PW.pt (pw_or (pt_cmpR op_ne (pe_callB call_isi (by rfl) T.isinstance (by decide +kernel) (pa_cons (pv 0) (pa_cons (pe_bltn (v := .ty "list") (u := .type "list") (by rfl) T.list (by decide +kernel) rfl) pa_nil))) (pe_callB call_isi (by rfl) T.isinstance (by decide +kernel) (pa_cons (pv 1) (pa_cons (pe_bltn (v := .ty "list") (u := .type "list") (by rfl) T.list (by decide +kernel) rfl) pa_nil))) (nomark _)) (pw_or1 (pt_cmpR op_ne (pe_callB call_isi (by rfl) T.isinstance (by decide +kernel) (pa_cons (pv 0) (pa_cons (pe_bltn (v := .ty "tuple") (u := .type "tuple") (by rfl) T.tuple (by decide +kernel) rfl) pa_nil))) (pe_callB call_isi (by rfl) T.isinstance (by decide +kernel) (pa_cons (pv 1) (pa_cons (pe_bltn (v := .ty "tuple") (u := .type "tuple") (by rfl) T.tuple (by decide +kernel) rfl) pa_nil))) (nomark _)))))
 (pss_one (ps_ret pe_bl))
 pss_nil)
 (pss_one (ps_ret (pe_and (pe_cmpR op_eq (pe_callB call_len_seq (by rfl) T.len PySem.boot_len (pa_cons (pv 0) pa_nil)) (pe_callB call_len_seq (by rfl) T.len PySem.boot_len (pa_cons (pv 1) pa_nil)) (nomark _)) (pe_one (pe_callB (cr_all rfl) (by rfl) T.all (by decide +kernel) (pa_cons (pe_lc (own := [("_law_x", 2), ("_law_y", 3)]) (g := gTup K 2 (gCons (gName 2) (gCons (gName 3) gNil))) (by rfl) sc__law_same.nd (RZ.pi_zipA (by rfl) T.zip (pa_cons (pv 0) (pa_cons (pv 1) pa_nil))) (blkOk_by (N := N__law_same) (sc := defScope s__law_same) (by decide +kernel)) (fun _ _ _ _ _ => (pg_tup rfl (pgs_cons (pg_name (i := 2) sc__law_same.nd rfl (Or.inl rfl)) (pgs_cons (pg_name (i := 3) sc__law_same.nd rfl (Or.inl rfl)) pgs_nil)))) (fun _ _ _ _ _ => pts_nil) (fun _ _ _ _ _ => (pe_call G__law_same (hr.mono (by omega)) (by rfl) T.g__law_same T.f__law_same.kp T.b__law_same .nil pass0 (pa_cons (pv 2) (pa_cons (pv 3) pa_nil))))) pa_nil)))))))
 pss_nil)
 (pss_cons (ps_if (pt_val (pe_callB call_isi (by rfl) T.isinstance (by decide +kernel) (pa_cons (pv 1) (pa_cons (pe_bltn (v := .ty "int") (u := .type "int") (by rfl) T.int (by decide +kernel) rfl) pa_nil))))
 (pss_one (ps_ret (pe_and (pe_callB call_isi (by rfl) T.isinstance (by decide +kernel) (pa_cons (pv 0) (pa_cons (pe_bltn (v := .ty "int") (u := .type "int") (by rfl) T.int (by decide +kernel) rfl) pa_nil))) (pe_and (pe_cmpR op_eq (pe_callB call_isi (by rfl) T.isinstance (by decide +kernel) (pa_cons (pv 0) (pa_cons (pe_bltn (v := .ty "bool") (u := .type "bool") (by rfl) T.bool (by decide +kernel) rfl) pa_nil))) (pe_callB call_isi (by rfl) T.isinstance (by decide +kernel) (pa_cons (pv 1) (pa_cons (pe_bltn (v := .ty "bool") (u := .type "bool") (by rfl) T.bool (by decide +kernel) rfl) pa_nil))) (nomark _)) (pe_one (pe_cmpR op_eq (pv 0) (pv 1) (nomark _)))))))
 pss_nil)
 (pss_one (ps_ret (pe_and (pe_cmpR op_isBl (pe_callB call_isiT (by rfl) T.isinstance (by decide +kernel) (pa_cons (pv 0) (pa_cons (pe_tup (pa_cons (pe_bltn (v := .ty "int") (u := .type "int") (by rfl) T.int (by decide +kernel) rfl) (pa_cons (pe_bltn (v := .ty "list") (u := .type "list") (by rfl) T.list (by decide +kernel) rfl) (pa_cons (pe_bltn (v := .ty "tuple") (u := .type "tuple") (by rfl) T.tuple (by decide +kernel) rfl) pa_nil)))) pa_nil))) pe_bl (nomark _)) (pe_one (pe_cmpR op_eq (pv 0) (pv 1) (nomark _)))))))), ?_⟩
    refine ⟨_, rfl, by show 2 ≤ sizeLine; decide, fun p hp => ?_⟩
    have s1 : Same H (upd H p (.tup [.ty "list", .ty "tuple"])) := Same.new hp
    have a1 := s1 _ _ h1
    have a2 := s1 _ _ h2
    have hs1 := sd_up hs s1
    have hpt : upd H p (.tup [.ty "list", .ty "tuple"]) p = some (.tup [.ty "list", .ty "tuple"]) := upd_same
    generalize upd H p (.tup [.ty "list", .ty "tuple"]) = H1 at s1 a1 a2 hs1 hpt ⊢
    have t1' := tyT (SqT.of (K := K) a1)
    have t2' := tyT (SqT.of (K := K) a2)
    refine ⟨_, p, _, _, _, true, rfl, hpt, .cons (.ty _) (.cons (.ty _) .nil), t2', kit2 (a := "tuple") (b := "list") (c := "tuple") (r := false) (s := true) (by decide +kernel) (by decide +kernel), _, rfl, iteT ?_⟩
    refine ⟨_, rfl, _, _, .type "tuple", _, false, rfl, .ty _, t1', kit_ty (by decide +kernel), _, rfl, _, _, .type "tuple", _, false, rfl, .ty _, t2', kit_ty (by decide +kernel), rfl, _, rfl, iteF ?_⟩
    refine ⟨_, rfl, _, _, .type "tuple", _, true, rfl, .ty _, t1', kit_ty (by decide +kernel), _, rfl, _, _, .type "tuple", _, true, rfl, .ty _, t2', kit_ty (by decide +kernel), rfl, _, rfl, iteF ?_⟩
    refine ⟨_, rfl, _, _, rfl, .inr (SqT.of a1), _, rfl, _, _, rfl, .inr (SqT.of a2), rfl, true, rfl, iteT ?_⟩
    refine ⟨_, rfl, _, rfl, _, _, _, _, rfl, .inr ⟨SqT.of a1, SqT.of a2, fun D hD => lc_it (walk_zipT (n := 2) rfl) (fun i H' => Same H1 H' ∧ H' D = some (.lst ((List.replicate i true).map V.bl))) ⟨Same.new hD, upd_same⟩ (fun i H' _ q => ⟨SqT.of (q.1 _ _ a1), SqT.of (q.1 _ _ a2)⟩) ?_ (fun H' q => ?_)⟩⟩
    · rintro i v H' H'' hi ⟨s2, hD'⟩ ⟨T, u, w', rfl, hT, rfl, hx', hy'⟩
      have s3 := s2.trans (Same.new (o := .tup [u, w']) hT)
      have sd : SD K (n + 1) (upd H' T (.tup [u, w'])) u w' := by
        rcases i with _ | _ | i
        · cases hx'
          cases hy'
          exact .inl ⟨.str z, .str z, .str z, by simp [PyData.depth], rfl⟩
        · cases hx'
          cases hy'
          exact sd_up hs1 s3
        · omega
      refine ⟨T, [u, w'], rfl, SqT.of upd_same, rfl, _, _, rfl, _, _, rfl, rfl, rfl, ?_⟩
      refine ⟨_, rfl, _, rfl, u, w', rfl, sd, fun H3 s4 => ?_⟩
      have hD3 : H3 D = some (.lst ((List.replicate i true).map V.bl)) := s4 _ _ (Same.new hT _ _ hD')
      refine ⟨_, hD3, by rw [List.length_map, List.length_replicate]; exact Nat.lt_of_lt_of_le hi (by decide), ?_, ?_⟩
      · exact fun b o e => by rw [upd_ne (ne_of_none e hD)]; exact (s3.trans s4) _ _ e
      · rw [upd_same, List.replicate_succ', List.map_append]; rfl
    · refine ⟨D, _, rfl, SqL.of q.2, ?_⟩
      rw [all_true]
      exact k _ (s1.trans q.1)
end
end K5
set_option Elab.async false
set_option linter.all false
set_option maxRecDepth 100000
set_option maxHeartbeats 4000000
namespace K5
open PySem L2
local macro_rules | `(tactic| walk_at "rd1") => `(tactic| first
  | refine ⟨_, _, rfl, rfl, ?_⟩
  | refine ⟨_, _, _, _, rfl, rfl, SqL.of (by assumption), rfl, ?_⟩
  | refine ⟨_, _, _, _, rfl, rfl, (by assumption), rfl, ?_⟩
  | refine .inl ⟨_, rfl, ?_⟩
  | refine ⟨_, rfl, ?_⟩
  | refine ⟨(by unfold CMul; omega), ?_⟩
  | refine ⟨(by unfold CPow; omega), ?_⟩
  | refine ⟨(by (try dsimp only); omega), ?_⟩
  | refine ⟨(by unfold CDiv; omega), ?_⟩
  | fail "rd1")
local macro_rules | `(tactic| walk_at "rd") => `(tactic| repeat' (walk_at "rd1"))
section
variable {P : Program} {w : World} {K : PySem.W.Frag} {mg : Str → Option Value} {base : Heap} {A : Ad}

def qL : Str := (Str.ofString "law" ++ ".<locals>.") ++ "<lambda>"
open LamX (Tabs TabS ExtN) in
/-- what the law holds between its loops -/
structure Bd (st c Pt : Addr) (b : Int) (fs : List (Addr × HO)) (H : Hp) : Prop where
  sta : Sta H st c b
  fac : ∀ a o, (a, o) ∈ fs → er H st a = some o
  ntb : ∀ a o, (a, o) ∈ fs → ∀ ps, o ≠ .tbl ps
  tab : Tabs [(Pt, qL)] H
theorem tab_gs {st c Pt : Addr} {b : Int} {H H' : Hp} (S : Sta H st c b) (t : LamX.Tabs [(Pt, qL)] H) (s : Same (er H st) (er H' st)) : LamX.Tabs [(Pt, qL)] H' := fun p hp => by
  obtain ⟨ps, h1, h2, h3⟩ := t p hp
  obtain ⟨cs, i, l, m, n, e1, _⟩ := S.ex
  have up : ∀ x o, H x = some o → (∀ xs, o ≠ .lst xs) → H' x = some o := fun x o e ne => (er_same _ _) _ _ (s _ _ (er_of (fun z => by rw [z, e1] at e; exact ne _ (Option.some.inj e).symm) e))
  refine ⟨ps, up _ _ h1 (fun xs z => by cases z), h2, fun pos cv hc => ?_⟩
  obtain ⟨c2, e2, e3⟩ := h3 pos cv hc
  exact ⟨c2, e2, up _ _ e3 (fun xs z => by unfold LamX.CodeO at z; cases z)⟩
theorem Bd.gs {st c Pt : Addr} {b b' : Int} {fs : List (Addr × HO)} {H H' : Hp} (B : Bd st c Pt b fs H) (g : Gs st c H H' b') : Bd st c Pt b' fs H' :=
  ⟨g.sta, fun a o m => g.same _ _ (B.fac a o m), B.ntb, tab_gs B.sta B.tab g.same⟩
theorem Bd.same {st c Pt : Addr} {b : Int} {fs : List (Addr × HO)} {H H' : Hp} (B : Bd st c Pt b fs H) (s : Same H H') : Bd st c Pt b fs H' := B.gs (Gs.of_same B.sta s)
theorem Bd.ext {st c Pt : Addr} {b : Int} {fs : List (Addr × HO)} {H H' : Hp} (B : Bd st c Pt b fs H) (e : LamX.ExtN H H') (t : LamX.Tabs [(Pt, qL)] H') : Bd st c Pt b fs H' := by
  obtain ⟨cs, i, l, m, n, e1, e2, r⟩ := B.sta.ex
  refine ⟨⟨cs, i, l, m, n, e _ _ e1 (fun _ z => by unfold five at z; cases z), er_of (er_some e2).1 (e _ _ (er_some e2).2 (fun _ z => by cases z)), r⟩, fun a o m => ?_, B.ntb, t⟩
  have q := er_some (B.fac a o m)
  exact er_of q.1 (e _ _ q.2 (B.ntb a o m))
theorem Bd.at_ {st c Pt : Addr} {b : Int} {fs : List (Addr × HO)} {H : Hp} (B : Bd st c Pt b fs H) {a : Addr} {o : HO} (m : (a, o) ∈ fs) : H a = some o := (er_same _ _) _ _ (B.fac a o m)
theorem Bd.le {st c Pt : Addr} {b b' : Int} {fs : List (Addr × HO)} {H : Hp} (B : Bd st c Pt b fs H) (hb : b ≤ b') (h9 : b' ≤ 1000000) : Bd st c Pt b' fs H := ⟨B.sta.le hb h9, B.fac, B.ntb, B.tab⟩
theorem Bd.add {st c Pt : Addr} {b : Int} {fs : List (Addr × HO)} {H : Hp} {x : Addr} {o : HO} (B : Bd st c Pt b fs H) (h : er H st x = some o) (n : ∀ ps, o ≠ .tbl ps) : Bd st c Pt b ((x, o) :: fs) H :=
  ⟨B.sta, fun a u m => by
    rcases List.mem_cons.mp m with e | m
    · cases e; exact h
    · exact B.fac a u m, fun a u m => by
    rcases List.mem_cons.mp m with e | m
    · cases e; exact n
    · exact B.ntb a u m, B.tab⟩
theorem Bd.nil {st c Pt : Addr} {b : Int} {fs : List (Addr × HO)} {H : Hp} (B : Bd st c Pt b fs H) : Bd st c Pt b [] H := ⟨B.sta, (by intro _ _ m; cases m), (by intro _ _ m; cases m), B.tab⟩
theorem Bd.addM {st c Pt : Addr} {b : Int} {fs gs : List (Addr × HO)} {H : Hp} {x : Addr} {o : HO} (B : Bd st c Pt b fs H) (B2 : Bd st c Pt b gs H) (m : (x, o) ∈ gs) : Bd st c Pt b ((x, o) :: fs) H := B.add (B2.fac _ _ m) (B2.ntb _ _ m)
theorem merge_all : ∀ (kvs acc : List (Key × V)), ((acc ++ kvs).map (·.1)).Nodup → mergeK acc kvs = acc ++ kvs
  | [], acc, _ => (List.append_nil acc).symm
  | (k, v) :: r, acc, h => by
    have e : mergeK acc ((k, v) :: r) = mergeK (putK acc k v) r := rfl
    have e2 : (acc ++ (k, v) :: r) = (acc ++ [(k, v)]) ++ r := by rw [List.append_assoc]; rfl
    rw [e2] at h
    have hn : k ∉ acc.map (·.1) := fun m => by
      rw [List.map_append, List.map_append, List.append_assoc] at h
      exact (List.nodup_append.mp h).2.2 _ m _ (List.mem_append_left _ (List.mem_singleton.mpr rfl)) rfl
    rw [e, put_new acc k v hn, merge_all r _ h, e2]
theorem er_keep {H : Hp} {st x a : Addr} {o u : HO} (hx : x ≠ st) (h : er H st a = some u) (n : a ≠ x) : er (upd H x o) st a = some u := by rw [er_updp hx, upd_ne n]; exact h
theorem same_erp' {H : Hp} {x : Addr} {o : HO} (h : H x = none) : Same H (er (upd H x o) x) := fun b u e => er_of (ne_of_none e h) (by rw [upd_ne (ne_of_none e h)]; exact e)
theorem rowsAt_take {rows : Rows} {ys : List Str} (i : Nat) (h : i < ys.length) : kvR (rowsAt rows (ys.take (i + 1))) = kvR (rowsAt rows (ys.take i)) ++ kvR (rowsAt rows [ys[i]]) := by
  unfold rowsAt kvR
  rw [List.take_succ, List.getElem?_eq_getElem h, List.map_append, List.map_append]; rfl
theorem rowsAt_one {rows : Rows} (nd : (ksR rows).Nodup) {k h : Str} (m : (k, h) ∈ rows) : kvR (rowsAt rows [k]) = [(.inr k, .str h)] := by
  show [((Sum.inr k : Key), V.str (match valV (kvR rows) (.inr k) with | some (.str h) => h | _ => k))] = _
  rw [valR nd m]
theorem paired_snoc {α β : Type} {R : α → β → Prop} : ∀ {xs : List α} {ys : List β} {x : α} {y : β}, Paired R xs ys → R x y → Paired R (xs ++ [x]) (ys ++ [y])
  | _, _, _, _, .nil, h => .cons h .nil
  | _, _, _, _, .cons a b, h => .cons a (paired_snoc b h)
theorem paired_imp {α β : Type} {R S : α → β → Prop} (f : ∀ a b, R a b → S a b) : ∀ {xs : List α} {ys : List β}, Paired R xs ys → Paired S xs ys
  | _, _, .nil => .nil
  | _, _, .cons a b => .cons (f _ _ a) (paired_imp f b)
theorem flat_all (rs : Rows) : ((kvR rs).map (·.2)).all flatV = true := by
  rw [List.all_eq_true]
  intro z hz
  obtain ⟨pr, hpr, rfl⟩ := List.mem_map.mp hz
  exact kvR_flat pr hpr
theorem inV_kvR (a : Str) (rs : Rows) : inV (.str a) ((kvR rs).map (·.2)) = decide (a ∈ rs.map (·.2)) := by
  unfold inV
  rw [Bool.eq_iff_iff, List.any_eq_true, decide_eq_true_iff]
  constructor
  · rintro ⟨y, hy, e⟩
    obtain ⟨pr, hpr, rfl⟩ := List.mem_map.mp hy
    obtain ⟨r, hr3, rfl⟩ := List.mem_map.mp hpr
    have e' : (r.2 == a) = true := e
    exact List.mem_map.mpr ⟨r, hr3, eq_of_beq e'⟩
  · intro m
    obtain ⟨r, hr3, e⟩ := List.mem_map.mp m
    exact ⟨.str a, List.mem_map.mpr ⟨(.inr r.1, .str r.2), List.mem_map.mpr ⟨r, hr3, rfl⟩, by rw [← e]⟩, by show (a == a) = true; exact beq_self_eq_true a⟩
theorem widAll_strs : ∀ ss : List Str, widAll (ss.map PyData.str) = true
  | [] => rfl
  | s :: ss => by
    show (wid (.str s) && widAll (ss.map PyData.str)) = true
    rw [widAll_strs ss]; rfl
theorem wid_strs {ss : List Str} (h : ss.length ≤ 64) : wid (.list (ss.map PyData.str)) = true := by
  show (decide ((ss.map PyData.str).length ≤ 1000) && widAll (ss.map PyData.str)) = true
  rw [widAll_strs, List.length_map, decide_eq_true (by omega)]; rfl
theorem two_wid {a b : List Str} (ha : a.length ≤ 64) (hb : b.length ≤ 64) : wid (.list [.list (a.map PyData.str), .list (b.map PyData.str)]) = true := by
  show (decide (2 ≤ 1000) && (wid (.list (a.map PyData.str)) && (wid (.list (b.map PyData.str)) && true))) = true
  rw [wid_strs ha, wid_strs hb]; rfl
theorem two_depth (a b : List Str) : PyData.depth (.list [.list (a.map PyData.str), .list (b.map PyData.str)]) < 6 := by
  simp [PyData.depth, PyData.depthAll, strs_depth]
theorem one_depth (a : List Str) : PyData.depth (.list (a.map PyData.str)) < 6 := by
  simp [PyData.depth, strs_depth]
theorem Path.mono {rs rows : Rows} (f : ∀ k h, (k, h) ∈ rs → (k, h) ∈ rows) : ∀ {h : Str} {ws : List Str}, Path rs h ws → Path rows h ws
  | _, _, .clock => .clock
  | _, _, .step ne m r => .step ne (f _ _ m) (r.mono f)
theorem Way.mono {rs rows : Rows} {nm : Str} {ws : List Str} (f : ∀ k h, (k, h) ∈ rs → (k, h) ∈ rows) (w : Way rs nm ws) : Way rows nm ws := by
  obtain ⟨h, m, pa, l⟩ := w
  exact ⟨h, f _ _ m, pa.mono f, l⟩
theorem odd_ok {H : Hp} {l t d : Addr} {rs : Rows} (hl : H l = some (.lst [])) (ht : H t = some (.tup [.str "rice"])) (hd : H d = some (.dK [])) (hp : ∀ s ∈ ksR rs, s ∈ pool) {x : V} (hx : x ∈ [V.str "late", .str "clock", .str "", .non, .int 5, .ref l, .ref t, .ref d, .bl true]) :
    Cpre K 4 H H x ∧ ((∃ s, x = .str s ∧ s ∉ ksR rs) ∨ ∃ t, TyX K H x (.type t) ∧ kitB t "str" = some false) := by
  have st : ∀ s : Str, s ∉ pool → Cpre K 4 H H (.str s) ∧ ((∃ z, V.str s = .str z ∧ z ∉ ksR rs) ∨ ∃ t, TyX K H (.str s) (.type t) ∧ kitB t "str" = some false) := fun s h =>
    ⟨⟨Same.refl _, .inl ⟨.str s, .str s, by simp [PyData.depth], rfl⟩⟩, .inl ⟨s, rfl, fun m => h (hp s m)⟩⟩
  simp only [List.mem_cons, List.not_mem_nil, or_false] at hx
  rcases hx with e | e | e | e | e | e | e | e | e <;> subst e
  · exact st _ (by decide +kernel)
  · exact st _ (by decide +kernel)
  · exact st _ (by decide +kernel)
  · exact ⟨⟨Same.refl _, .inl ⟨.none, .non, by simp [PyData.depth], rfl⟩⟩, .inr ⟨"NoneType", .base .non, by decide +kernel⟩⟩
  · exact ⟨⟨Same.refl _, .inl ⟨.int 5, .int 5, by simp [PyData.depth], rfl⟩⟩, .inr ⟨"int", .base (.int _), by decide +kernel⟩⟩
  · exact ⟨⟨Same.refl _, .inl ⟨.list [], .lst (SqL.of hl) .nil, by simp [PyData.depth, PyData.depthAll], rfl⟩⟩, .inr ⟨"list", .base (.lst hl), by decide +kernel⟩⟩
  · exact ⟨⟨Same.refl _, .inl ⟨.tuple [.str "rice"], .tup (SqT.of ht) (.cons (.str _) .nil), by simp [PyData.depth, PyData.depthAll], rfl⟩⟩, .inr ⟨"tuple", .base (.tup ht), by decide +kernel⟩⟩
  · exact ⟨⟨Same.refl _, .inr ⟨d, rfl, hd, by decide⟩⟩, .inr ⟨"dict", .base (.dK hd), by decide +kernel⟩⟩
  · exact ⟨⟨Same.refl _, .inl ⟨.bool true, .bl true, by simp [PyData.depth], rfl⟩⟩, .inr ⟨"bool", .base (.bl _), by decide +kernel⟩⟩
theorem eqR_refl {r : Rows} (nd : (ksR r).Nodup) : eqR r r = true := by
  unfold eqR Own.eqKv
  rw [Bool.and_eq_true]
  refine ⟨beq_self_eq_true _, List.all_eq_true.mpr fun p hp => ?_⟩
  obtain ⟨x, hx, rfl⟩ := List.mem_map.mp hp
  show (match valV (kvR r) (.inr x.1) with | some u => eqV (.str x.2) u | none => false) = true
  rw [valR nd (show (x.1, x.2) ∈ r from hx)]
  show (x.2 == x.2) = true
  exact beq_self_eq_true _
theorem eqR_same {r1 r2 : Rows} (hk : ksR r1 = ksR r2) (nd : (ksR r2).Nodup) : eqR r1 r2 = decide (r1 = r2) := by
  rw [Bool.eq_iff_iff, decide_eq_true_iff]
  constructor
  · intro h
    unfold eqR Own.eqKv at h
    rw [Bool.and_eq_true] at h
    have hl : r1.length = r2.length := by have := congrArg List.length hk; rwa [ksR_len, ksR_len] at this
    refine List.ext_getElem hl fun i h1 h2 => ?_
    have e1 : r1[i].1 = r2[i].1 := by
      have a1 : (ksR r1)[i]? = some r1[i].1 := by unfold ksR; rw [List.getElem?_map, List.getElem?_eq_getElem h1]; rfl
      have a2 : (ksR r2)[i]? = some r2[i].1 := by unfold ksR; rw [List.getElem?_map, List.getElem?_eq_getElem h2]; rfl
      rw [hk, a2] at a1
      exact (Option.some.inj a1).symm
    have q := List.all_eq_true.mp h.2 (.inr r1[i].1, .str r1[i].2) (List.mem_map.mpr ⟨r1[i], List.getElem_mem h1, rfl⟩)
    have q : (match valV (kvR r2) (.inr r1[i].1) with | some u => eqV (.str r1[i].2) u | none => false) = true := q
    rw [e1, valR nd (show (r2[i].1, r2[i].2) ∈ r2 from List.getElem_mem h2)] at q
    have e2 : r1[i].2 = r2[i].2 := eq_of_beq (show (r1[i].2 == r2[i].2) = true from q)
    exact Prod.ext e1 e2
  · intro e
    subst e
    exact eqR_refl nd
theorem eqR_len {r1 r2 : Rows} (h : r1.length ≠ r2.length) : eqR r1 r2 = false := by
  unfold eqR
  rw [show (r1.length == r2.length) = false from beq_false_of_ne h]; rfl
theorem asc_self {r : Rows} (h : PyProof.Rows.sortedS (ksR r) = true) : Asc r r := ⟨.refl _, fun _ _ m => m, h⟩
theorem asc_uniq {rows r1 r2 : Rows} (nd : (ksR rows).Nodup) (a : Asc rows r1) (b : Asc rows r2) : r1 = r2 := by
  have e : ksR r1 = ksR r2 := asc_eq (a.keys.trans b.keys.symm) a.asc (sle_sorted b.asc)
  rw [asc_rows nd a, asc_rows nd b, e]
theorem made {C : Addr} {H H' : Hp} {x dx : Addr} (nx : H x = none) (ndx : H dx = none) (sS : Same (er (upd (upd H dx (.own x)) x (.ins C dx [])) x) (er H' x)) : Same H H' := fun b u e =>
  (er_same _ _) _ _ (sS _ _ (er_of (ne_of_none e nx) (by rw [upd_ne (ne_of_none e nx), upd_ne (ne_of_none e ndx)]; exact e)))
theorem madeN {C : Addr} {H : Hp} {x dx q : Addr} (nx : H x = none) (ndx : H dx = none) (nq : upd (upd H dx (.own x)) x (.ins C dx []) q = none) : H q = none :=
  Same.free (fun b u e => by rw [upd_ne (ne_of_none e nx), upd_ne (ne_of_none e ndx)]; exact e) nq
abbrev qqR (rows : Rows) : Rows := rows ++ [(("qq" : Str), ("clock" : Str))]
theorem qq_put {rows : Rows} (h : ("qq" : Str) ∉ ksR rows) : putK (kvR rows) (.inr "qq") (.str "clock") = kvR (qqR rows) := by
  rw [put_new _ _ _ (by
    rw [kvR_keys]
    intro m
    obtain ⟨z, hz, ez⟩ := List.mem_map.mp m
    exact h (by rw [← Sum.inr.inj ez]; exact hz)), kvR_app]
theorem qq_ok {rk : Str → Nat} {rows : Rows} (h : ("qq" : Str) ∉ ksR rows) (O : ROk rk rows) (t : Tree rows) (l : rows.length < 63) : ROk (fun s => (ksR (qqR rows)).idxOf s) (qqR rows) :=
  ROk.tree (by
    rw [ksR_app, List.nodup_append]
    exact ⟨O.nd, by simp, fun x hx y hy e => h (by rw [← List.mem_singleton.mp hy, ← e]; exact hx)⟩) (fun s m => by
    rw [ksR_app] at m
    rcases List.mem_append.mp m with m | m
    · exact O.nm s m
    · rw [List.mem_singleton.mp m]; exact ⟨qq_nm, by decide +kernel⟩) (by rw [List.length_append, List.length_singleton]; omega) (t.app (.inl rfl))
def spLawT (K : PySem.W.Frag) (Pt : Addr) : Sp := fun vs H Q _ => ∃ (a : Addr) (ns : List Int), vs = [.ref a] ∧ SqL K H a (ns.map V.int) ∧ ns.length ≤ 63 ∧ LamX.Tabs [(Pt, qL)] H ∧ ∀ H', Q (.bl true) H'
end
end K5
set_option Elab.async false
set_option linter.all false
set_option maxRecDepth 100000
set_option maxHeartbeats 4000000
namespace K5
open PySem L2
local macro_rules | `(tactic| walk_at "rd1") => `(tactic| first
  | refine ⟨_, _, rfl, rfl, ?_⟩
  | refine ⟨_, _, _, _, rfl, rfl, SqL.of (by assumption), rfl, ?_⟩
  | refine ⟨_, _, _, _, rfl, rfl, (by assumption), rfl, ?_⟩
  | refine .inl ⟨_, rfl, ?_⟩
  | refine ⟨_, rfl, ?_⟩
  | refine ⟨(by unfold CMul; omega), ?_⟩
  | refine ⟨(by unfold CPow; omega), ?_⟩
  | refine ⟨(by (try dsimp only); omega), ?_⟩
  | refine ⟨(by unfold CDiv; omega), ?_⟩
  | fail "rd1")
local macro_rules | `(tactic| walk_at "rd") => `(tactic| repeat' (walk_at "rd1"))
section
variable {P : Program} {w : World} {K : PySem.W.Frag} {mg : Str → Option Value} {base : Heap} {A : Ad}

theorem ok_lawT (T : Txt K mg A) {oc kW doc pm ct : Value} {od an : Option Addr} {osl : Array (Option Value)} {c0 Pt : Addr} (lk : K.lookup A.a_law = some ⟨oc, od, .func (PySem.W.fnOf "law" "law" (defArgs s_law) (defBody s_law) (defScope s_law) .none kW doc pm an (.ref c0) ct), osl⟩) (hcd : PySem.W.codeIn K (.ref c0) "law" = true)
    (TB : LamX.TabB base mg c0 Pt) : FnOk P w K mg base CX0 11 A.a_law (PySem.W.fnOf "law" "law" (defArgs s_law) (defBody s_law) (defScope s_law) .none kW doc pm an (.ref c0) ct) P_law (spLawT K Pt) := by
  have G__law_fresh : FnOk P w K mg base CX0 1 A.a__law_fresh A.d__law_fresh P__law_fresh (spFresh K) := ok_fresh T
  have G__law_take : FnOk P w K mg base CX0 1 A.a__law_take A.d__law_take P__law_take spTake := ok_take T
  have G__law_names : FnOk P w K mg base CX0 3 A.a__law_names A.d__law_names P__law_names (spNames K) := ok_names T
  have G__law_hung : FnOk P w K mg base CX0 3 A.a__law_hung A.d__law_hung P__law_hung (spHung K) := ok_hung T
  have G__law_rising : FnOk P w K mg base CX0 1 A.a__law_rising A.d__law_rising P__law_rising (spRising K) := ok_rising T
  have G__law_same_dict : FnOk P w K mg base CX0 2 A.a__law_same_dict A.d__law_same_dict P__law_same_dict spSameD := ok_samed T
  have G__law_same : FnOk P w K mg base CX0 6 A.a__law_same A.d__law_same P__law_same (fun vs H Q E => spSame K 6 vs H Q E ∨ spPair K 5 vs H Q E) := fnOr (ok_same T 6) (ok_pair T 4)
  have G__law_with : FnOk P w K mg base CX0 1 A.a__law_with A.d__law_with P__law_with spWith := ok_with T
  have G__law_way : FnOk P w K mg base CX0 1 A.a__law_way A.d__law_way P__law_way spWayL := ok_wayl T
  have G_Hanging___init__ : FnOk P w K mg base CX0 4 A.a_Hanging___init__ A.d_Hanging___init__ P_Hanging___init__ (spHInit A.a_Hanging) := ok_hinit T
  have G_Hanging_rows : FnOk P w K mg base CX0 1 A.a_Hanging_rows A.d_Hanging_rows P_Hanging_rows (spHRows A.a_Hanging) := ok_hrows T
  have G_Hanging_dishes : FnOk P w K mg base CX0 1 A.a_Hanging_dishes A.d_Hanging_dishes P_Hanging_dishes (spHDishes A.a_Hanging) := ok_hdishes T
  have G_Hanging_looks : FnOk P w K mg base CX0 1 A.a_Hanging_looks A.d_Hanging_looks P_Hanging_looks (spLooks A.a_Hanging) := ok_looks T
  have G_Hanging_way : FnOk P w K mg base (L2.CX P w) 8 A.a_Hanging_way A.d_Hanging_way P_Hanging_way (spWay K 4 A.a_Hanging A.a_NoDish) := ok_way T 4
  have G_Hanging___eq__ : FnOk P w K mg base CX0 1 A.a_Hanging___eq__ A.d_Hanging___eq__ P_Hanging___eq__ (spHEq A.a_Hanging) := ok_heq T
  obtain ⟨ocT, odT, kVT, docT, pmT, anT, cdT, ctT, oslT, eT, lkT, hcT⟩ := T.f__law_tried.ex
  have hbT := T.b__law_tried
  rw [eT] at lkT hbT
  refine fn_of lk hcd sc_law (fun vs H Q E h => ?_) (fun A' outer s H vs Q E hr h => ?_)
  · obtain ⟨a, ns, rfl, _⟩ := h
    rfl
  · obtain ⟨a, ns, rfl, hS, hlen, hT, k⟩ := h
    refine ⟨_, PSs.nox (pss_cons (ps_set (i := 1) sc_law.nd rfl (Or.inl rfl) (pe_call G__law_fresh (hr.mono (by omega)) (by rfl) T.g__law_fresh T.f__law_fresh.kp T.b__law_fresh .nil pass0 (pa_cons (pv 0) pa_nil)))
 (pss_cons (ps_for PassesOwn.never rfl (pi_range1 (by rfl) T.range (pa_cons pe_int pa_nil)) (pg_name (i := 2) sc_law.nd rfl (Or.inl rfl))
 (pss_cons (ps_set (i := 3) sc_law.nd rfl (Or.inl rfl) (pe_call G__law_names (hr.mono (by omega)) (by rfl) T.g__law_names T.f__law_names.kp T.b__law_names .nil pass0 (pa_cons (pv 1) (pa_cons (pe_call G__law_take (hr.mono (by omega)) (by rfl) T.g__law_take T.f__law_take.kp T.b__law_take .nil pass0 (pa_cons (pv 1) (pa_cons pe_int pa_nil))) pa_nil))))
 (pss_cons (ps_set (i := 4) sc_law.nd rfl (Or.inr rfl) (pe_call G__law_hung (hr.mono (by omega)) (by rfl) T.g__law_hung T.f__law_hung.kp T.b__law_hung .nil pass0 (pa_cons (pv 1) (pa_cons (pv 3) pa_nil))))
 (pss_cons (ps_set (i := 5) sc_law.nd rfl (Or.inl rfl) (pe_callTy call_dictD (by rfl) T.dict (by decide +kernel) (pa_cons (pv 4) pa_nil)))
 (pss_cons (ps_asg (pe_tup (pa_cons (pe_make T.mkH G_Hanging___init__ (hr.mono (by omega)) (by rfl) T.g_Hanging T.b_Hanging___init__ .nil pass0 (pa_cons (pv 5) pa_nil)) (pa_cons (pe_call G__law_rising (hr.mono (by omega)) (by rfl) T.g__law_rising T.f__law_rising.kp T.b__law_rising .nil pass0 (pa_cons (pv 3) pa_nil)) pa_nil))) (pg_tup (by rfl) (pgs_cons (pg_name (i := 6) sc_law.nd rfl (Or.inr rfl)) (pgs_cons (pg_name (i := 7) sc_law.nd rfl (Or.inl rfl)) pgs_nil))))
 (pss_cons (ps_dput (hu_of hr) (pv 5) pe_str pe_str rfl)
 (pss_cons (ps_set (i := 8) sc_law.nd rfl (Or.inl rfl) (pe_callTy (call_dictP rfl) (by rfl) T.dict (by decide +kernel) (pa_cons (pe_lc (own := [("_law_name", 12)]) (g := gName 12) (by rfl) sc_law.nd (pi_list (pv 7)) (blkOk_by (N := N_law) (sc := defScope s_law) (by decide +kernel)) (fun _ _ _ _ _ => pg_name (i := 12) sc_law.nd rfl (Or.inl rfl)) (fun _ _ _ _ _ => pts_nil) (fun _ _ _ _ _ => (pe_tup (pa_cons (pv 12) (pa_cons (pe_dget (hu_of hr) (pv 4) (pv 12) (fun _ _ => rfl)) pa_nil))))) pa_nil)))
 (pss_cons (ps_setLc (i := 9) (own := [("_law_name", 12)]) (g := gName 12)  (by rfl) sc_law.nd rfl rfl (sw_true rfl rfl rfl (by decide +kernel)) (pi_list (pv 7)) (blkOk_by (N := N_law) (sc := defScope s_law) (by decide +kernel)) (fun _ _ _ _ _ => pg_name (i := 12) sc_law.nd rfl (Or.inl rfl)) (fun _ _ _ _ _ => pts_one (pt_cmpR (Own.inValsOf (K := K) rfl rfl) (pv 12) (Own.bm0Of (K := K) rfl PySem.F.plainAttrs_dict PySem.F.slot_dict_values PySem.F.type_dict_values Own.mt_values (pv 4)) (by rfl))) (fun _ _ _ _ _ => (pv 12)))
 (pss_cons (ps_for PassesOwn.never rfl (pi_range1 (by rfl) T.range (pa_cons pe_int pa_nil)) (pg_name (i := 10) sc_law.nd rfl (Or.inl rfl))
 (pss_cons (ps_if (pt_not (pt_val (pe_call G__law_same_dict (hr.mono (by omega)) (by rfl) T.g__law_same_dict T.f__law_same_dict.kp T.b__law_same_dict .nil pass0 (pa_cons (pe_meth0 (pv 6) T.cl T.m_rows G_Hanging_rows (hr.mono (by omega)) T.b_Hanging_rows .nil pass0) (pa_cons (pv 8) pa_nil)))))
 (pss_one (ps_ret pe_bl))
 pss_nil)
 (pss_cons (ps_if (pt_not (pt_val (pe_call G__law_same (hr.mono (by omega)) (by rfl) T.g__law_same T.f__law_same.kp T.b__law_same .nil pass0 (pa_cons (pe_lst (pa_cons (pe_meth0 (pv 6) T.cl T.m_dishes G_Hanging_dishes (hr.mono (by omega)) T.b_Hanging_dishes .nil pass0) (pa_cons (pe_meth0 (pv 6) T.cl T.m_looks G_Hanging_looks (hr.mono (by omega)) T.b_Hanging_looks .nil pass0) pa_nil))) (pa_cons (pe_lst (pa_cons (pv 7) (pa_cons (pv 9) pa_nil))) pa_nil)))))
 (pss_one (ps_ret pe_bl))
 pss_nil)
 (pss_cons (ps_if (PW.pt (pw_or (pt_cmpR (op_neD hr.units) (pe_lock (pe_lc (own := [("_law_name", 12)]) (g := gName 12) (by rfl) sc_law.nd (Own.pi_own (fun _ => ok_hiter T) T.b_Hanging___iter__ pass0 (hr.mono (by omega)) T.m_iter.1 T.m_iter.2 (pv 6)) (blkOk_by (N := N_law) (sc := defScope s_law) (by decide +kernel)) (fun _ _ _ _ _ => pg_name (i := 12) sc_law.nd rfl (Or.inl rfl)) (fun _ _ _ _ _ => pts_nil) (fun _ _ _ _ _ => (pv 12)))) (pv 7) (nomark _)) (pw_or1 (pt_cmpR (op_neD hr.units) (pe_lock (pe_callTy (Own.call_listIt (fun _ => ok_hiter T) T.b_Hanging___iter__ pass0 rfl (hr.mono (by omega)) T.m_iter.1 T.m_iter.2 T.nLen T.nHint) (by rfl) T.list (by decide +kernel) (pa_cons (pv 6) pa_nil))) (pv 7) (nomark _)))))
 (pss_one (ps_ret pe_bl))
 pss_nil)
 (pss_cons (ps_set (i := 11) sc_law.nd rfl (Or.inl rfl) (pe_lst (pa_cons (pe_meth0 (pv 6) T.cl T.m_rows G_Hanging_rows (hr.mono (by omega)) T.b_Hanging_rows .nil pass0) (pa_cons (pe_meth0 (pv 6) T.cl T.m_dishes G_Hanging_dishes (hr.mono (by omega)) T.b_Hanging_dishes .nil pass0) (pa_cons (pe_meth0 (pv 6) T.cl T.m_looks G_Hanging_looks (hr.mono (by omega)) T.b_Hanging_looks .nil pass0) pa_nil)))))
 (pss_cons (ps_expr (pe_dclear (pe_ix ix_list (pv 11) pe_int (fun _ _ => rfl))))
 (pss_cons (ps_expr (pe_bm PySem.F.plainAttrs_list PySem.F.slot_list_append PySem.F.type_list_append mt_append (pe_ix ix_list (pv 11) pe_int (fun _ _ => rfl)) (pa_cons pe_str pa_nil)))
 (pss_one (ps_expr (pe_bm PySem.F.plainAttrs_list PySem.F.slot_list_append PySem.F.type_list_append mt_append (pe_ix ix_list (pv 11) pe_int (fun _ _ => rfl)) (pa_cons pe_str pa_nil)))))))))))
 (pss_cons (ps_for PassesOwn.never rfl (pi_list (pv 3)) (pg_name (i := 12) sc_law.nd rfl (Or.inl rfl))
 (pss_one (ps_for PassesOwn.never rfl (pi_range1 (by rfl) T.range (pa_cons pe_int pa_nil)) (pg_name (i := 10) sc_law.nd rfl (Or.inl rfl))
 (pss_cons (ps_set (i := 13) sc_law.nd rfl (Or.inl rfl) (pe_meth (pv 6) T.cl T.m_way G_Hanging_way (hr.mono (by omega)) T.b_Hanging_way .nil passL (pa_cons (pv 12) pa_nil)))
 (pss_cons (ps_if (pt_not (pt_val (pe_call G__law_same (hr.mono (by omega)) (by rfl) T.g__law_same T.f__law_same.kp T.b__law_same .nil pass0 (pa_cons (pv 13) (pa_cons (pe_call G__law_way (hr.mono (by omega)) (by rfl) T.g__law_way T.f__law_way.kp T.b__law_way .nil pass0 (pa_cons (pv 4) (pa_cons (pv 12) pa_nil))) pa_nil)))))
 (pss_one (ps_ret pe_bl))
 pss_nil)
 (pss_one (ps_expr (pe_bm PySem.F.plainAttrs_list PySem.F.slot_list_append PySem.F.type_list_append mt_append (pv 13) (pa_cons pe_str pa_nil)))))))))
 (pss_cons (ps_for PassesOwn.never rfl (pi_list (pe_lst (pa_cons pe_str (pa_cons pe_str (pa_cons pe_str (pa_cons pe_non (pa_cons pe_int (pa_cons (pe_lst pa_nil) (pa_cons (pe_tup (pa_cons pe_str pa_nil)) (pa_cons pe_dnewK (pa_cons pe_bl pa_nil))))))))))) (pg_name (i := 14) sc_law.nd rfl (Or.inr rfl))
 (pss_one (ps_if (pt_not (pt_val (pe_call G__law_same (hr.mono (by omega)) (by rfl) T.g__law_same T.f__law_same.kp T.b__law_same .nil pass0 (pa_cons (LamX.pe_lamcall (k := 8) (T := [(Pt, qL)]) (by rfl) T.g__law_tried T.f__law_tried.kp lkT hcT hbT sc__law_tried rfl (Or.inl rfl) (tried_gives T) TB rfl (List.mem_singleton.mpr rfl) (fun p hp _ => by rw [List.mem_singleton.mp hp]; rfl) (hr.mono (by omega)) (show LamX.LamS (defScope s_law) _ from LamX.lamS_by (by decide +kernel)) rfl (fun _ _ _ _ _ => rfl) (fun A2 o2 s2 H2 E2 f2 c2 hr2 => pe_meth (pv 6) T.cl T.m_way G_Hanging_way (hr2.mono (by omega)) T.b_Hanging_way .nil (passes_call (takes_of rfl rfl rfl rfl) (fun _ _ _ _ h => h)) (pa_cons (pv 14) pa_nil))) (pa_cons (pe_tup (pa_cons pe_str (pa_cons (pv 14) pa_nil))) pa_nil)))))
 (pss_one (ps_ret pe_bl))
 pss_nil)))
 (pss_cons (ps_set (i := 15) sc_law.nd rfl (Or.inl rfl) (pe_lst (pa_cons pe_non (pa_cons (pv 8) (pa_cons (pe_make T.mkH G_Hanging___init__ (hr.mono (by omega)) (by rfl) T.g_Hanging T.b_Hanging___init__ .nil pass0 (pa_cons (pe_call G__law_with (hr.mono (by omega)) (by rfl) T.g__law_with T.f__law_with.kp T.b__law_with .nil pass0 (pa_cons (pv 4) (pa_cons pe_str (pa_cons pe_str pa_nil)))) pa_nil)) (pa_cons (pe_make T.mkH G_Hanging___init__ (hr.mono (by omega)) (by rfl) T.g_Hanging T.b_Hanging___init__ .nil pass0 (pa_cons (pe_call G__law_hung (hr.mono (by omega)) (by rfl) T.g__law_hung T.f__law_hung.kp T.b__law_hung .nil pass0 (pa_cons (pv 1) (pa_cons (pv 3) pa_nil))) pa_nil)) pa_nil))))))
 (pss_cons (ps_for PassesOwn.never rfl (pi_list (pe_slice sl_list (pv 15) po_none (po_some pe_int))) (pg_name (i := 16) sc_law.nd rfl (Or.inl rfl))
 (pss_one (ps_if (PW.pt (pw_or (pt_cmpR (Own.op_eqOwn G_Hanging___eq__ T.m_eq.at_ T.m_eq.fn T.b_Hanging___eq__ pass0 (hr.mono (by omega))) (pv 6) (pv 16) (nomark _)) (pw_or (pt_cmpR ((Own.op_eqNonL G_Hanging___eq__ T.sN T.m_eq.at_ T.m_eq.fn T.b_Hanging___eq__ pass0 (hr.mono (by omega))).or ((Own.op_eqDctL G_Hanging___eq__ T.sD T.m_eq.at_ T.m_eq.fn T.b_Hanging___eq__ pass0 (hr.mono (by omega))).or (Own.op_eqOwn G_Hanging___eq__ T.m_eq.at_ T.m_eq.fn T.b_Hanging___eq__ pass0 (hr.mono (by omega))))) (pv 16) (pv 6) (nomark _)) (pw_or1 (pt_not (pt_cmpR (Own.op_neOwn G_Hanging___eq__ T.nE T.mO T.m_eq.at_ T.m_eq.fn T.b_Hanging___eq__ pass0 (hr.mono (by omega))) (pv 6) (pv 16) (nomark _)))))))
 (pss_one (ps_ret pe_bl))
 pss_nil)))
 (pss_one (ps_if (PW.pt (pw_or (pt_cmpR op_ne (pe_cmpR (Own.op_eqOwn G_Hanging___eq__ T.m_eq.at_ T.m_eq.fn T.b_Hanging___eq__ pass0 (hr.mono (by omega))) (pv 6) (pe_ix ix_list (pv 15) pe_int (fun _ _ => rfl)) (nomark _)) (pe_cmpR (Own.op_eqDF hr.units) (pe_meth0 (pe_ix ix_list (pv 15) pe_int (fun _ _ => rfl)) T.cl T.m_rows G_Hanging_rows (hr.mono (by omega)) T.b_Hanging_rows .nil pass0) (pv 8) (nomark _)) (nomark _)) (pw_or1 (pt_cmpR (Own.op_neOwn G_Hanging___eq__ T.nE T.mO T.m_eq.at_ T.m_eq.fn T.b_Hanging___eq__ pass0 (hr.mono (by omega))) (pv 6) (pe_make T.mkH G_Hanging___init__ (hr.mono (by omega)) (by rfl) T.g_Hanging T.b_Hanging___init__ .nil pass0 (pa_cons (pv 8) pa_nil)) (nomark _)))))
 (pss_one (ps_ret pe_bl))
 pss_nil)))))))))))))))
 (pss_one (ps_ret pe_bl)))), ?_⟩
    refine ⟨_, rfl, a, ns, rfl, hS, fun st c H1 sm S1 => ?_⟩
    have hT1 : LamX.Tabs [(Pt, qL)] H1 := hT.ext fun b o e => (er_same _ _) _ _ (sm b o e)
    refine ⟨5, rfl, by decide, by decide, for_range (lo := 0) (n := (5 : Int).toNat) (fun i σ' H' => ∃ v2 v3 v4 v5 v6 v7 v8 v9 v10 v11 v12 v13 v14 v15 v16, σ' = [some (.ref a), some (.ref st), v2, v3, v4, v5, v6, v7, v8, v9, v10, v11, v12, v13, v14, v15, v16] ∧ Bd st c Pt (1000 * (i : Int)) [] H')
      ⟨_, _, _, _, _, _, _, _, _, _, _, _, _, _, _, rfl, ⟨by simpa using S1, (by intro _ _ m; cases m), (by intro _ _ m; cases m), hT1⟩⟩ ?_ (fun σ' H' _ => k H')⟩
    clear hS sm S1 hT hT1
    rintro i σ' H0 hi ⟨v2, v3, v4, v5, v6, v7, v8, v9, v10, v11, v12, v13, v14, v15, v16, rfl, B0⟩
    have hi5 : (i : Int) < 5 := by
      have : i < 5 := hi
      omega
    have S0 := B0.sta
    -- names
    refine ⟨_, rfl, _, rfl, st, c, 6, _, rfl, S0, by omega, by omega, by omega, fun r o hr0 hr1 S1 => ⟨st, c, _, r.toNat, ?_, S1, by omega, by omega, fun pn ns H2 hnd hpool hnl g2 hn _ => ?_⟩⟩
    · rw [show ((r.toNat : Nat) : Int) = r by omega]; rfl
    have g2 := (Gs.of_upd S1).trans g2
    have nl5 : ns.length ≤ 5 := by omega
    have nok : ∀ s ∈ ns, PyData.strOk s = true := fun s h => pool_ok s (hpool s h)
    -- rows
    refine ⟨_, rfl, _, rfl, st, c, pn, ns, _, rfl, g2.sta, by omega, SqL.of hn, by omega, hnd, nok, fun pr rows H3 hperm tree g3 hr3 hr30 => ?_⟩
    have hn3 := g3.same _ _ hn
    have g3 := g2.trans g3
    have kN : (ksR rows).Nodup := hperm.nodup_iff.mpr hnd
    have rl5 : rows.length ≤ 5 := by rw [← ksR_len, hperm.length_eq]; exact nl5
    have hO : ROk (fun s => (ksR rows).idxOf s) rows := ROk.tree kN (fun s m => by
      have m2 := hperm.mem_iff.mp m
      exact ⟨pool_nm s (hpool s m2), nok s m2⟩) (by omega) tree
    -- given
    refine ⟨_, rfl, pr, _, rfl, .inl ((er_same _ _) _ _ hr3), fun pg ng => ?_⟩
    have mg := g3.sta.ne ng
    have s4 : Same (er H3 st) (er (upd H3 pg (.dK (kvR rows))) st) := er_mono (Same.new ng)
    have g4 := g3.new ng (o := .dK (kvR rows))
    have hn4 := s4 _ _ hn3
    have hr4 := s4 _ _ hr3
    have hg4 : er (upd H3 pg (.dK (kvR rows))) st pg = some (.dK (kvR rows)) := er_of mg upd_same
    have npr : pr ≠ pg := ne_of_none ((er_same _ _) _ _ hr3) ng
    have npn : pn ≠ pg := ne_of_none ((er_same _ _) _ _ hn3) ng
    generalize upd H3 pg (.dK (kvR rows)) = H4 at s4 g4 hn4 hr4 hg4 ⊢
    clear s4 hn3 hr3
    -- the hanging
    have hg4' := (er_same _ _) _ _ hg4
    refine ⟨_, rfl, fun p dx np ndx ndp => ?_⟩
    have sM : Same H4 (upd (upd H4 dx (.own p)) p (.ins A.a_Hanging dx [])) := fun b u e => by rw [upd_ne (ne_of_none e np), upd_ne (ne_of_none e ndx)]; exact e
    refine ⟨p, dx, pg, _, rows, rfl, upd_same, sM _ _ hg4', hO, fun H5 q rs ⟨⟨dx2, hp5⟩, hq5⟩ nq asc sS => ⟨rfl, ?_⟩⟩
    have s5 : Same H4 H5 := fun b u e => (er_same _ _) _ _ (sS _ _ (er_of (ne_of_none e np) (sM _ _ e)))
    have nq4 : H4 q = none := sM.free nq
    clear sS nq hg4' sM
    have g5 := g4.trans (Gs.of_same g4.sta s5)
    have hn5 := er_mono s5 _ _ hn4
    have hr5 := er_mono s5 _ _ hr4
    have hg5 := er_mono s5 _ _ hg4
    have mp := g4.sta.ne np
    have mq := g4.sta.ne nq4
    have hp5 := er_of mp hp5
    have hq5 := er_of mq hq5
    have nqg : q ≠ pg := (ne_of_none ((er_same _ _) _ _ hg4) nq4).symm
    have npg : p ≠ pg := (ne_of_none ((er_same _ _) _ _ hg4) np).symm
    -- up
    refine ⟨_, rfl, pn, ns, rfl, SqL.of ((er_same _ _) _ _ hn5), by omega, fun pu up H6 hup husort npu s6 hu6 => ?_⟩
    have e0 : ksR rs = up := asc_eq (asc.keys.trans (hperm.trans hup.symm)) asc.asc husort
    have g6 := g5.trans (Gs.of_same g5.sta s6)
    have hn6 := er_mono s6 _ _ hn5
    have hr6 := er_mono s6 _ _ hr5
    have hg6 := er_mono s6 _ _ hg5
    have hp6 := er_mono s6 _ _ hp5
    have hq6 := er_mono s6 _ _ hq5
    have mu := g5.sta.ne npu
    have hu6 := er_of mu hu6
    have nug : pu ≠ pg := (ne_of_none ((er_same _ _) _ _ hg5) npu).symm
    clear hn4 hn5 hr4 hr5 hg4 hg5 hp5 hq5 np npu nq4 ndx ndp
    refine ⟨by show 2 ≤ sizeLine; decide, fun t nt => ⟨t, _, rfl, SqT.of upd_same, rfl, _, _, rfl, _, _, rfl, rfl, ?_⟩⟩
    have s7 : Same (er H6 st) (er (upd H6 t (.tup [.ref p, .ref pu])) st) := er_mono (Same.new nt)
    have g7 := g6.new nt (o := .tup [.ref p, .ref pu])
    have hn7 := s7 _ _ hn6
    have hr7 := s7 _ _ hr6
    have hg7 := s7 _ _ hg6
    have hp7 := s7 _ _ hp6
    have hq7 := s7 _ _ hq6
    have hu7 := s7 _ _ hu6
    generalize upd H6 t (.tup [.ref p, .ref pu]) = H7 at s7 g7 hn7 hr7 hg7 hp7 hq7 hu7 ⊢
    clear hn6 hr6 hg6 hp6 hq6 hu6 s7
    -- given["late"]
    refine ⟨_, rfl, pg, _, rfl, .inl ⟨kvR rows, .inr "late", (er_same _ _) _ _ hg7, rfl, by rw [kvR_len]; exact Nat.lt_of_lt_of_le (show rows.length < 6 by omega) (by decide), rfl⟩, ?_⟩
    have epg : er H0 st pg = none := g3.same.free (er_none ng)
    have g8 := g7.set (o := .dK (putK (kvR rows) (.inr "late") (.str "clock"))) S0.hc epg mg
    have hn8 := er_keep (o := .dK (putK (kvR rows) (.inr "late") (.str "clock"))) mg hn7 npn
    have hr8 := er_keep (o := .dK (putK (kvR rows) (.inr "late") (.str "clock"))) mg hr7 npr
    have hp8 := er_keep (o := .dK (putK (kvR rows) (.inr "late") (.str "clock"))) mg hp7 npg
    have hq8 := er_keep (o := .dK (putK (kvR rows) (.inr "late") (.str "clock"))) mg hq7 nqg
    have hu8 := er_keep (o := .dK (putK (kvR rows) (.inr "late") (.str "clock"))) mg hu7 nug
    refine cast_heap (b := upd H7 pg (.dK (putK (kvR rows) (.inr "late") (.str "clock")))) rfl ?_
    generalize upd H7 pg (.dK (putK (kvR rows) (.inr "late") (.str "clock"))) = H8 at g8 hn8 hr8 hp8 hq8 hu8 ⊢
    clear hn7 hr7 hg7 hp7 hq7 hu7 g7 g6 g5 g4 npn npr npg nqg nug
    -- due
    have hr8' := (er_same _ _) _ _ hr8
    have hu8' := (er_same _ _) _ _ hu8
    have ul5 : up.length ≤ 5 := by rw [hup.length_eq]; exact nl5
    refine ⟨_, rfl, pu, rfl, ⟨_, SqL.of hu8'⟩, fun D nD => lc_it (walk_list (K := K) (a := pu)) (fun i H' => ∃ ps : List Addr, H' D = some (.lst (ps.map V.ref)) ∧ Paired (fun p kv => SqT K (er H' D) p [kV kv.1, kv.2]) ps (kvR (rowsAt rows (up.take i))) ∧ Same H8 (er H' D)) ⟨[], upd_same, .nil, same_erp' nD⟩ (fun i H' _ z => by
        obtain ⟨ps, _, _, sD⟩ := z
        exact SqL.of ((er_same _ _) _ _ (sD _ _ hu8'))) ?_ (fun H9 z => ?_)⟩
    · rintro j x H' H'' hj ⟨ps, hD, hP, sD⟩ ⟨rfl, hx⟩
      obtain ⟨hj, rfl⟩ := str_at hx
      have hr9 := (er_same _ _) _ _ (sD _ _ hr8')
      have hm : up[j] ∈ ksR rows := hperm.mem_iff.mpr (hup.mem_iff.mp (List.getElem_mem hj))
      obtain ⟨hk, m⟩ := memR hm
      refine ⟨rfl, _, rfl, _, rfl, _, rfl, pr, .str hk, rfl, .inl ⟨kvR rows, .inr up[j], .inl hr9, rfl, (valR kN m).symm⟩, by show 2 ≤ sizeLine; decide, fun t nt => ⟨_, Same.new nt _ _ hD, ?_, ps ++ [t], ?_, ?_, ?_⟩⟩
      · have := hP.length
        rw [kvR_len] at this
        have l2 : (rowsAt rows (up.take j)).length = (up.take j).length := List.length_map ..
        rw [List.length_map, this, l2, List.length_take]
        exact Nat.lt_of_lt_of_le (show min j up.length < 6 by omega) (by decide)
      · rw [upd_same, List.map_append]; rfl
      · rw [er_upd, rowsAt_take j hj, rowsAt_one kN m]
        have mt : t ≠ D := (ne_of_none hD nt).symm
        refine paired_snoc (paired_imp (fun a b q => stUp q (er_mono (Same.new nt))) hP) (SqT.of (er_of mt ?_))
        rw [upd_same]; rfl
      · rw [er_upd]
        exact sD.trans (er_mono (Same.new nt))
    obtain ⟨ps, hD, hP, sD⟩ := z
    have ers : rowsAt rows up = rs := by
      have := asc_rows kN asc
      rw [e0] at this
      exact this.symm
    rw [List.length_map, List.take_length, ers] at hP
    have rN : (ksR rs).Nodup := by rw [e0]; exact hup.nodup_iff.mpr hnd
    refine ⟨D, ps, kvR rs, rfl, SqL.of hD, paired_imp (fun a b q => stUp q (er_same _ _)) hP, fun pd npd => ?_⟩
    rw [merge_all (kvR rs) [] (by rw [List.nil_append]; exact kvR_nd rN), List.nil_append]
    have s9 : Same H8 (upd H9 pd (.dK (kvR rs))) := (sD.trans (er_same _ _)).trans (Same.new npd)
    have md : pd ≠ st := g8.sta.ne ((sD.trans (er_same _ _)).free npd)
    have hd9 : er (upd H9 pd (.dK (kvR rs))) st pd = some (.dK (kvR rs)) := er_of md upd_same
    have g9 := g8.trans (Gs.of_same g8.sta s9)
    have hn9 := er_mono s9 _ _ hn8
    have hr9 := er_mono s9 _ _ hr8
    have hp9 := er_mono s9 _ _ hp8
    have hq9 := er_mono s9 _ _ hq8
    have hu9 := er_mono s9 _ _ hu8
    clear hD hP sD npd hn8 hr8 hp8 hq8 hu8 hr8' hu8' nD
    generalize upd H9 pd (.dK (kvR rs)) = H10 at s9 g9 hn9 hr9 hp9 hq9 hu9 hd9 ⊢
    -- looks
    have hr9' := (er_same _ _) _ _ hr9
    have hu9' := (er_same _ _) _ _ hu9
    refine ⟨_, rfl, pu, rfl, ⟨_, SqL.of hu9'⟩, fun D nD => lc_it (walk_list (K := K) (a := pu)) (fun i H' => H' D = some (.lst (((up.take i).filter fun k => decide (k ∈ rows.map (·.2))).map V.str)) ∧ Same H10 (er H' D)) ⟨upd_same, same_erp' nD⟩ (fun i H' _ z => SqL.of ((er_same _ _) _ _ (z.2 _ _ hu9'))) ?_ (fun H11 z => ?_)⟩
    · rintro j x H' H'' hj ⟨hD, sD⟩ ⟨rfl, hx⟩
      obtain ⟨hj, rfl⟩ := str_at hx
      have hr10 := (er_same _ _) _ _ (sD _ _ hr9')
      refine ⟨rfl, _, rfl, _, rfl, .inr (.inr (.inl ⟨rfl, .inl ⟨_, hr10⟩⟩)), pr, _, rfl, rfl, hr10, fun v nv => ⟨v, pr, kvR rows, rfl, upd_same, .inl (Same.new nv _ _ hr10), rfl, ?_, ?_⟩⟩
      · exact flat_all rows
      · have sv := sD.trans (er_mono (st := D) (Same.new nv (o := Own.VvO pr v)))
        have hD2 := Same.new nv (o := Own.VvO pr v) _ _ hD
        generalize upd H'' v (Own.VvO pr v) = H12 at sv hD2 ⊢
        rw [inV_kvR]
        have et : (up.take (j + 1)).filter (fun k => decide (k ∈ rows.map (·.2))) = (up.take j).filter (fun k => decide (k ∈ rows.map (·.2))) ++ (if up[j] ∈ rows.map (·.2) then [up[j]] else []) := by
          rw [List.take_succ, List.getElem?_eq_getElem hj, List.filter_append]
          congr 1
          by_cases e : up[j] ∈ rows.map (·.2) <;> simp [e]
        refine ⟨_, rfl, ite2 (fun c1 => ?_) (fun c1 => ?_)⟩
        · have m := of_decide_eq_true c1
          refine ⟨_, rfl, _, hD2, ?_, ?_, ?_⟩
          · rw [List.length_map]
            exact Nat.lt_of_le_of_lt (Nat.le_trans (List.length_filter_le _ _) (by rw [List.length_take]; omega)) (show 5 < sizeLine by decide)
          · rw [upd_same, et, if_pos m, List.map_append]; rfl
          · rw [er_upd]; exact sv
        · have m : up[j] ∉ rows.map (·.2) := fun z => c1 (decide_eq_true z)
          exact ⟨by rw [et, if_neg m, List.append_nil]; exact hD2, sv⟩
    obtain ⟨hD, sD⟩ := z
    rw [List.length_map, List.take_length] at hD
    have el : (up.filter fun k => decide (k ∈ rows.map (·.2))) = looksR rs := by
      unfold looksR
      rw [e0]
      refine List.filter_congr fun k _ => ?_
      have : k ∈ rows.map (·.2) ↔ k ∈ rs.map (·.2) := by
        constructor
        · intro m
          obtain ⟨r, hr, e⟩ := List.mem_map.mp m
          obtain ⟨h2, m2⟩ := memR (rows := rs) (asc.keys.mem_iff.mpr (memK hr))
          have := memSnd kN hr (asc.mem _ _ m2)
          exact List.mem_map.mpr ⟨_, m2, by rw [← this]; exact e⟩
        · intro m
          obtain ⟨r, hr, e⟩ := List.mem_map.mp m
          exact List.mem_map.mpr ⟨_, asc.mem _ _ hr, e⟩
      rw [Bool.eq_iff_iff, decide_eq_true_iff, decide_eq_true_iff]
      exact this
    rw [el] at hD
    have s11 : Same H10 H11 := sD.trans (er_same _ _)
    have g11 := g9.trans (Gs.of_same g9.sta s11)
    have hl : er H11 st D = some (.lst ((looksR rs).map V.str)) := er_of (g9.sta.ne nD) hD
    have Bf : Bd st c Pt _ [(D, .lst ((looksR rs).map V.str)), (pd, .dK (kvR rs)), (pu, .lst (up.map V.str)), (q, .dK (kvR rs)), (p, .ins A.a_Hanging dx2 [("hooks", .ref q)]), (pr, .dK (kvR rows)), (pn, .lst (ns.map V.str))] H11 :=
      ((((((((B0.gs g11).add (er_mono s11 _ _ hn9) (fun _ z => by cases z)).add (er_mono s11 _ _ hr9) (fun _ z => by cases z)).add (er_mono s11 _ _ hp9) (fun _ z => by cases z)).add (er_mono s11 _ _ hq9) (fun _ z => by cases z)).add (er_mono s11 _ _ hu9) (fun _ z => by cases z)).add (er_mono s11 _ _ hd9) (fun _ z => by cases z)).add hl (fun _ z => by cases z))
    clear hD sD hn9 hr9 hp9 hq9 hu9 hd9 hr9' hu9' s9 g9 g8 g3 g2 hl el nD s11 g11 mp mq mu mg md epg S1 hn
    have Bf := Bf.le (b' := 1000 * (i : Int) + 300) (by omega) (by omega)
    rename Addr => pl
    have uok : ∀ s ∈ up, PyData.strOk s = true := fun s h => nok s (hup.mem_iff.mp h)
    have rl6 : rs.length ≤ 5 := by rw [← ksR_len, e0]; exact ul5
    have lsub : ∀ s ∈ looksR rs, s ∈ up := fun s h => by rw [← e0]; exact (List.mem_filter.mp h).1
    have ll5 : (looksR rs).length ≤ 5 := Nat.le_trans (List.length_filter_le _ _) (by rw [ksR_len]; exact rl6)
    refine ⟨2, rfl, by decide, by decide, for_range (lo := 0) (n := (2 : Int).toNat) (fun j σ' H' => ∃ u10 u11 u12, σ' = [some (.ref a), some (.ref st), some (.int (0 + (i : Int))), some (.ref pn), some (.ref pr), some (.ref pg), some (.ref p), some (.ref pu), some (.ref pd), some (.ref pl), u10, u11, u12, v13, v14, v15, v16] ∧ Gs st c H11 H' (1000 * (i : Int) + 300))
      ⟨_, _, _, rfl, Gs.refl Bf.sta⟩ ?_ (fun σ' H12 z => ?_)⟩
    · rintro j σ' G0 hj ⟨u10, u11, u12, rfl, q0⟩
      have F := fun {x : Addr} {o : HO} (m : (x, o) ∈ [(pl, HO.lst ((looksR rs).map V.str)), (pd, .dK (kvR rs)), (pu, .lst (up.map V.str)), (q, .dK (kvR rs)), (p, .ins A.a_Hanging dx2 [("hooks", .ref q)]), (pr, .dK (kvR rows)), (pn, .lst (ns.map V.str))]) => q0.same _ _ (Bf.fac _ _ m)
      have fl := F (.head _)
      have fd := F (.tail _ (.head _))
      have fu := F (.tail _ (.tail _ (.head _)))
      have fq := F (.tail _ (.tail _ (.tail _ (.head _))))
      have fp := F (.tail _ (.tail _ (.tail _ (.tail _ (.head _)))))
      clear F
      have E0 : ∀ {G : Hp}, Same (er G st) G := fun {G} => er_same G st
      -- rows
      refine ⟨_, rfl, p, dx2, _, rfl, E0 _ _ fp, rfl, p, q, rs, rfl, ⟨⟨dx2, E0 _ _ fp⟩, E0 _ _ fq⟩, fun l nl => ?_⟩
      have s1 : Same G0 (upd G0 l (.dK (kvR rs))) := Same.new nl
      refine ⟨_, rfl, l, pd, rs, rfl, (ne_of_none (E0 _ _ fd) nl).symm, upd_same, s1 _ _ (E0 _ _ fd), rN, by omega, by rw [e0]; exact uok, fun G1 s2 => ⟨_, rfl, iteF ?_⟩⟩
      have s2 := s1.trans s2
      clear s1
      -- dishes, looks
      refine ⟨_, rfl, p, dx2, _, rfl, s2 _ _ (E0 _ _ fp), rfl, p, q, rs, rfl, ⟨⟨dx2, s2 _ _ (E0 _ _ fp)⟩, s2 _ _ (E0 _ _ fq)⟩, fun l1 nl1 => ?_⟩
      have s3 := s2.trans (Same.new nl1 (o := .lst ((ksR rs).map V.str)))
      have h3 : upd G1 l1 (.lst ((ksR rs).map V.str)) l1 = some (.lst ((ksR rs).map V.str)) := upd_same
      generalize upd G1 l1 (.lst ((ksR rs).map V.str)) = G2 at s3 h3 ⊢
      refine ⟨_, rfl, p, dx2, _, rfl, s3 _ _ (E0 _ _ fp), rfl, p, q, rs, rfl, ⟨⟨dx2, s3 _ _ (E0 _ _ fp)⟩, s3 _ _ (E0 _ _ fq)⟩, by omega, fun l2 G3 s4 nl2 h4 => ⟨by show 2 ≤ sizeLine; decide, fun L1 nL1 => ?_⟩⟩
      have s5 := s4.trans (Same.new nL1 (o := .lst [.ref l1, .ref l2]))
      have h5 : upd G3 L1 (.lst [.ref l1, .ref l2]) L1 = some (.lst [.ref l1, .ref l2]) := upd_same
      have h4 := Same.new nL1 (o := .lst [.ref l1, .ref l2]) _ _ h4
      have h3 := s5 _ _ h3
      have s5 := s3.trans s5
      generalize upd G3 L1 (.lst [.ref l1, .ref l2]) = G4 at s5 h3 h4 h5 ⊢
      refine ⟨_, rfl, _, rfl, by show 2 ≤ sizeLine; decide, fun L2 nL2 => ?_⟩
      have s6 := Same.new nL2 (o := .lst [.ref pu, .ref pl])
      refine .inl ⟨_, _, .list [.list (up.map PyData.str), .list ((looksR rs).map PyData.str)], rfl, .lst (SqL.of (s6 _ _ h5)) (.cons (.lst (SqL.of (s6 _ _ (by rw [← e0]; exact h3))) (dpStrs _)) (.cons (.lst (SqL.of (s6 _ _ h4)) (dpStrs _)) .nil)), .lst (SqL.of upd_same) (.cons (.lst (SqL.of (s6 _ _ (s5 _ _ (E0 _ _ fu)))) (dpStrs _)) (.cons (.lst (SqL.of (s6 _ _ (s5 _ _ (E0 _ _ fl)))) (dpStrs _)) .nil)), ?_, ?_, fun G5 s7 => ⟨_, rfl, iteF ?_⟩⟩
      · exact two_depth _ _
      · exact two_wid (by omega) (by omega)
      have s7 := (s5.trans s6).trans s7
      clear s2 s3 s4 s5 s6 h3 h4 h5
      -- [.. for .. in hanging], list(hanging)
      have ek : ((kvR rs).map fun kv => kV kv.1) = up.map V.str := by
        have : ((kvR rs).map fun kv => kV kv.1) = (ksR rs).map V.str := by simp [kvR, ksR, kV]
        rw [this, e0]
      have nqp : q ≠ p := fun e => by rw [e, fp] at fq; cases fq
      have npq := nqp.symm
      have nuq : pu ≠ q := fun e => by rw [e, fq] at fu; cases fu
      refine ⟨q, _, s7 _ _ (E0 _ _ fq), trivial, fun od => ?_⟩
      have z1 : ∀ {o : HO}, upd G5 q o p = some (.ins A.a_Hanging dx2 [("hooks", .ref q)]) := fun {o} => by rw [upd_ne npq]; exact s7 _ _ (E0 _ _ fp)
      refine ⟨_, rfl, p, dx2, _, rfl, z1, fun m => ⟨p, dx2, q, od, kvR rs, rfl, z1, upd_same, fun it nit hm => ⟨it, q, od, kvR rs, rfl, upd_same, ?_, hm, ?_⟩⟩⟩
      · exact Same.new nit _ _ upd_same
      rw [ItX.dropH_upd nit]
      refine fun D nD => lc_it walk_keys (fun i H' => Same (upd G5 q (.frz od (.dK (kvR rs)))) H' ∧ H' D = some (.lst ((up.take i).map V.str))) ⟨Same.new nD, upd_same⟩ (fun i H' _ z => z.1 _ _ upd_same) ?_ (fun G6 z => ?_)
      · rintro t x H' H'' ht ⟨s8, hD⟩ ⟨rfl, key, v, hk, rfl⟩
        obtain ⟨b1, b2, rfl, rfl, hr2⟩ := kvR_at hk
        have ea : up[t]? = some b1 := by rw [← e0]; unfold ksR; rw [List.getElem?_map, hr2]; rfl
        refine ⟨rfl, _, rfl, _, hD, ?_, ?_, ?_⟩
        · rw [List.length_map, List.length_take]; exact Nat.lt_of_lt_of_le (show min t up.length < 6 by omega) (by decide)
        · exact fun b u e => by rw [upd_ne (ne_of_none e nD)]; exact s8 _ _ e
        · rw [upd_same, List.take_succ, ea, List.map_append]; rfl
      obtain ⟨s8, hD⟩ := z
      rw [kvR_len, ← ksR_len, e0, List.take_length] at hD
      have nDq : D ≠ q := fun e => by rw [e, upd_same] at nD; cases nD
      have nD5 : G5 D = none := by rw [upd_ne nDq] at nD; exact nD
      have s9 : Same G5 (upd G6 q (.dK (kvR rs))) := fun x u e => by
        by_cases hx : x = q
        · subst hx; rw [upd_same]; rw [s7 _ _ (E0 _ _ fq)] at e; exact e
        · rw [upd_ne hx]; exact s8 _ _ (by rw [upd_ne hx]; exact e)
      refine ⟨s8 _ _ upd_same, ?_⟩
      have hD9 : upd G6 q (.dK (kvR rs)) D = some (.lst (up.map V.str)) := by rw [upd_ne nDq]; exact hD
      generalize upd G6 q (.dK (kvR rs)) = G7 at s9 hD9 ⊢
      clear s8 hD nD z1
      have s9 := s7.trans s9
      refine ⟨_, rfl, .list (up.map PyData.str), .list (up.map PyData.str), .lst (SqL.of hD9) (dpStrs _), .lst (SqL.of (s9 _ _ (E0 _ _ fu))) (dpStrs _), strs_shaped uok, strs_shaped uok, _, rfl, ?_⟩
      rw [eqv_strs_refl]
      refine iteF ?_
      clear hD9 nDq nD5
      refine ⟨q, _, s9 _ _ (E0 _ _ fq), trivial, fun od => ?_⟩
      have z1 : ∀ {o : HO}, upd G7 q o p = some (.ins A.a_Hanging dx2 [("hooks", .ref q)]) := fun {o} => by rw [upd_ne npq]; exact s9 _ _ (E0 _ _ fp)
      refine ⟨_, rfl, p, dx2, _, rfl, z1, fun S nS m => ?_⟩
      have nSq : S ≠ q := fun e => by rw [e, upd_same] at nS; cases nS
      have nS7 : G7 S = none := by rw [upd_ne nSq] at nS; exact nS
      have z2 : ∀ {o : HO}, upd (upd G7 q (.frz od (.dK (kvR rs)))) S o p = some (.ins A.a_Hanging dx2 [("hooks", .ref q)]) := fun {o} => Same.new nS _ _ z1
      have z3 : ∀ {o : HO}, upd (upd G7 q (.frz od (.dK (kvR rs)))) S o q = some (.frz od (.dK (kvR rs))) := fun {o} => Same.new nS _ _ upd_same
      refine ⟨p, dx2, q, od, kvR rs, rfl, z2, z3, fun it nit hm => ⟨it, q, od, kvR rs, rfl, upd_same, Same.new nit _ _ z3, Same.new nit _ _ upd_same, hm, ⟨dx2, _, Same.new nit _ _ z2⟩, ?_⟩⟩
      rw [ItX.dropH_upd nit, upd_upd, ek]
      refine ⟨Same.new nS _ _ upd_same, ?_⟩
      have s10 : Same G7 (upd (upd (upd G7 q (.frz od (.dK (kvR rs)))) S (.lst (up.map V.str))) q (.dK (kvR rs))) := fun x u e => by
        by_cases hx : x = q
        · subst hx; rw [upd_same]; rw [s9 _ _ (E0 _ _ fq)] at e; exact e
        · rw [upd_ne hx]; exact Same.new nS _ _ (by rw [upd_ne hx]; exact e)
      have hS10 : upd (upd (upd G7 q (.frz od (.dK (kvR rs)))) S (.lst (up.map V.str))) q (.dK (kvR rs)) S = some (.lst (up.map V.str)) := by rw [upd_ne nSq, upd_same]
      generalize upd (upd (upd G7 q (.frz od (.dK (kvR rs)))) S (.lst (up.map V.str))) q (.dK (kvR rs)) = G8 at s10 hS10 ⊢
      have s10 := s9.trans s10
      clear z1 z2 z3 s7 s9 nS nSq nS7
      refine ⟨_, rfl, .list (up.map PyData.str), .list (up.map PyData.str), .lst (SqL.of hS10) (dpStrs _), .lst (SqL.of (s10 _ _ (E0 _ _ fu))) (dpStrs _), strs_shaped uok, strs_shaped uok, _, rfl, ?_⟩
      rw [eqv_strs_refl]
      refine iteF ?_
      clear hS10
      -- told
      have q8 := q0.trans (Gs.of_same q0.sta s10)
      refine ⟨_, rfl, p, dx2, _, rfl, s10 _ _ (E0 _ _ fp), rfl, p, q, rs, rfl, ⟨⟨dx2, s10 _ _ (E0 _ _ fp)⟩, s10 _ _ (E0 _ _ fq)⟩, fun l1 nl1 => ?_⟩
      have ml1 := q8.sta.ne nl1
      have el1 := q8.same.free (er_none nl1)
      have s11 := s10.trans (Same.new nl1 (o := .dK (kvR rs)))
      have q9 := q8.new nl1 (o := .dK (kvR rs))
      have h1 : upd G8 l1 (.dK (kvR rs)) l1 = some (.dK (kvR rs)) := upd_same
      generalize upd G8 l1 (.dK (kvR rs)) = G9 at s11 q9 h1 ⊢
      refine ⟨_, rfl, p, dx2, _, rfl, s11 _ _ (E0 _ _ fp), rfl, p, q, rs, rfl, ⟨⟨dx2, s11 _ _ (E0 _ _ fp)⟩, s11 _ _ (E0 _ _ fq)⟩, fun l2 nl2 => ?_⟩
      have ml2 := q9.sta.ne nl2
      have el2 := q9.same.free (er_none nl2)
      have n12 : l1 ≠ l2 := ne_of_none h1 nl2
      have s12 := s11.trans (Same.new nl2 (o := .lst ((ksR rs).map V.str)))
      have q10 := q9.new nl2 (o := .lst ((ksR rs).map V.str))
      have h1 := Same.new nl2 (o := .lst ((ksR rs).map V.str)) _ _ h1
      have h2 : upd G9 l2 (.lst ((ksR rs).map V.str)) l2 = some (.lst ((ksR rs).map V.str)) := upd_same
      generalize upd G9 l2 (.lst ((ksR rs).map V.str)) = G10 at s12 q10 h1 h2 ⊢
      refine ⟨_, rfl, p, dx2, _, rfl, s12 _ _ (E0 _ _ fp), rfl, p, q, rs, rfl, ⟨⟨dx2, s12 _ _ (E0 _ _ fp)⟩, s12 _ _ (E0 _ _ fq)⟩, by omega, fun l3 G11 s13 nl3 h3 => ?_⟩
      have ml3 := q10.sta.ne nl3
      have el3 := q10.same.free (er_none nl3)
      have n13 : l1 ≠ l3 := ne_of_none h1 nl3
      have n23 : l2 ≠ l3 := ne_of_none h2 nl3
      have h1 := s13 _ _ h1
      have h2 := s13 _ _ h2
      have q11 := q10.trans (Gs.of_same q10.sta s13)
      refine ⟨by show 3 ≤ sizeLine; decide, fun L nL => ?_⟩
      have q12 := q11.new nL (o := .lst [.ref l1, .ref l2, .ref l3])
      have n1L : l1 ≠ L := ne_of_none h1 nL
      have n2L : l2 ≠ L := ne_of_none h2 nL
      have n3L : l3 ≠ L := ne_of_none h3 nL
      have h1 := Same.new nL (o := .lst [.ref l1, .ref l2, .ref l3]) _ _ h1
      have h2 := Same.new nL (o := .lst [.ref l1, .ref l2, .ref l3]) _ _ h2
      have h3 := Same.new nL (o := .lst [.ref l1, .ref l2, .ref l3]) _ _ h3
      have hL : upd G11 L (.lst [.ref l1, .ref l2, .ref l3]) L = some (.lst [.ref l1, .ref l2, .ref l3]) := upd_same
      generalize upd G11 L (.lst [.ref l1, .ref l2, .ref l3]) = G12 at q12 h1 h2 h3 hL ⊢
      clear s10 s11 s12 s13 q8 q9 q10 q11 nl1 nl2 nl3 nL fl fd fu fq fp
      refine ⟨_, rfl, _, _, _, _, rfl, rfl, SqL.of hL, rfl, .inr (.inr (.inl ⟨rfl, .inl ⟨_, h1⟩⟩)), l1, _, rfl, rfl, h1, ?_⟩
      have q13 := q12.set (o := .dK []) Bf.sta.hc el1 ml1
      have h2 : upd G12 l1 (.dK []) l2 = _ := (upd_ne n12.symm).trans h2
      have h3 : upd G12 l1 (.dK []) l3 = _ := (upd_ne n13.symm).trans h3
      have hL : upd G12 l1 (.dK []) L = _ := (upd_ne n1L.symm).trans hL
      refine cast_heap (b := upd G12 l1 (.dK [])) rfl ?_
      generalize upd G12 l1 (.dK []) = G13 at q13 h2 h3 hL ⊢
      refine ⟨_, rfl, _, _, _, _, rfl, rfl, SqL.of hL, rfl, .inl ⟨rfl, _, SqL.of h2⟩, l2, _, _, rfl, rfl, h2, by rw [List.length_map, ksR_len]; exact Nat.lt_of_lt_of_le (show rs.length < 6 by omega) (by decide), ?_⟩
      have q14 := q13.set (o := .lst ((ksR rs).map V.str ++ [.str "late"])) Bf.sta.hc el2 ml2
      have h3 : upd G13 l2 (.lst ((ksR rs).map V.str ++ [.str "late"])) l3 = _ := (upd_ne n23.symm).trans h3
      have hL : upd G13 l2 (.lst ((ksR rs).map V.str ++ [.str "late"])) L = _ := (upd_ne n2L.symm).trans hL
      refine cast_heap (b := upd G13 l2 (.lst ((ksR rs).map V.str ++ [.str "late"]))) rfl ?_
      generalize upd G13 l2 (.lst ((ksR rs).map V.str ++ [.str "late"])) = G14 at q14 h3 hL ⊢
      refine ⟨_, rfl, _, _, _, _, rfl, rfl, SqL.of hL, rfl, .inl ⟨rfl, _, SqL.of h3⟩, l3, _, _, rfl, rfl, h3, by rw [List.length_map]; exact Nat.lt_of_lt_of_le (show (looksR rs).length < 6 by omega) (by decide), ?_⟩
      exact ⟨_, _, _, rfl, q14.set Bf.sta.hc el3 ml3⟩
    obtain ⟨u10, u11, u12, rfl, q12⟩ := z
    have B12 := Bf.gs q12
    clear q12 Bf
    -- the ways
    have hnB := B12.at_ (.tail _ (.tail _ (.tail _ (.tail _ (.tail _ (.tail _ (.head _)))))))
    have asO := asc.ok hO
    refine ⟨_, rfl, pn, rfl, ⟨_, SqL.of hnB⟩, for_it (walk_list (K := K) (a := pn)) (fun j σ' H' => ∃ u10 u12 u13, σ' = [some (.ref a), some (.ref st), some (.int (0 + (i : Int))), some (.ref pn), some (.ref pr), some (.ref pg), some (.ref p), some (.ref pu), some (.ref pd), some (.ref pl), u10, u11, u12, u13, v14, v15, v16] ∧ Gs st c H12 H' (1000 * (i : Int) + 300))
      ⟨_, _, _, rfl, Gs.refl B12.sta⟩ (fun j σ' H' _ z => by
        obtain ⟨_, _, _, _, g⟩ := z
        exact SqL.of ((er_same _ _) _ _ (g.same _ _ (B12.fac _ _ (.tail _ (.tail _ (.tail _ (.tail _ (.tail _ (.tail _ (.head _)))))))))) ) ?_ (fun σ' H13 z => ?_)⟩
    · rintro j x σ' H' H'' hj ⟨u10, u12, u13, rfl, q0⟩ ⟨rfl, hx⟩
      obtain ⟨hj, rfl⟩ := str_at hx
      have hm : ns[j] ∈ ksR rs := by rw [e0]; exact hup.mem_iff.mpr (List.getElem_mem hj)
      obtain ⟨ws, W⟩ := way_ex asO hm
      have wl : ws.length ≤ 64 := by obtain ⟨_, _, _, l⟩ := W; exact l
      generalize ns[j] = nm at hm W ⊢
      refine ⟨2, rfl, by decide, by decide, for_range (lo := 0) (n := (2 : Int).toNat) (fun t σ' H' => ∃ u10 u13, σ' = [some (.ref a), some (.ref st), some (.int (0 + (i : Int))), some (.ref pn), some (.ref pr), some (.ref pg), some (.ref p), some (.ref pu), some (.ref pd), some (.ref pl), u10, u11, some (.str nm), u13, v14, v15, v16] ∧ Gs st c H12 H' (1000 * (i : Int) + 300))
        ⟨_, _, rfl, q0⟩ ?_ (fun σ' H13 z => ?_)⟩
      · clear q0
        rintro t σ' G0 ht ⟨u10, u13, rfl, q0⟩
        have F := fun {x : Addr} {o : HO} (m : (x, o) ∈ [(pl, HO.lst ((looksR rs).map V.str)), (pd, .dK (kvR rs)), (pu, .lst (up.map V.str)), (q, .dK (kvR rs)), (p, .ins A.a_Hanging dx2 [("hooks", .ref q)]), (pr, .dK (kvR rows)), (pn, .lst (ns.map V.str))]) => (er_same _ _) _ _ (q0.same _ _ (B12.fac _ _ m))
        have fq := F (.tail _ (.tail _ (.tail _ (.head _))))
        have fp := F (.tail _ (.tail _ (.tail _ (.tail _ (.head _)))))
        have fr := F (.tail _ (.tail _ (.tail _ (.tail _ (.tail _ (.head _))))))
        clear F
        refine ⟨_, rfl, p, dx2, _, rfl, fp, rfl, _, rfl, p, q, rs, _, rfl, ⟨⟨dx2, fp⟩, fq⟩, rN, .inl ⟨nm, ws, rfl, W, fun l G1 s1 nl hl => ?_⟩⟩
        have ml := q0.sta.ne nl
        have el := q0.same.free (er_none nl)
        refine ⟨_, rfl, _, rfl, _, rfl, pr, rows, nm, ws, rfl, s1 _ _ fr, kN, W.mono asc.mem, fun l2 G2 s2 hl2 => ?_⟩
        have hl3 := s2 _ _ hl
        refine .inl ⟨_, _, .list (ws.reverse.map PyData.str), rfl, .lst (SqL.of hl3) (dpStrs _), .lst (SqL.of hl2) (dpStrs _), one_depth _, wid_strs (by rw [List.length_reverse]; exact wl), fun G3 s3 => ⟨_, rfl, iteF ?_⟩⟩
        have hl4 := s3 _ _ hl3
        have q3 := q0.trans (Gs.of_same q0.sta ((s1.trans s2).trans s3))
        refine ⟨_, rfl, .inl ⟨rfl, _, SqL.of hl4⟩, l, _, _, rfl, rfl, hl4, by rw [List.length_map, List.length_reverse]; exact Nat.lt_of_le_of_lt wl (by decide), ?_⟩
        exact ⟨_, _, rfl, q3.set B12.sta.hc el ml⟩
      · obtain ⟨u10, u13, rfl, q13⟩ := z
        exact ⟨_, _, _, rfl, q13⟩
    obtain ⟨u10, u12, u13, rfl, q13⟩ := z
    have B13 := B12.gs q13
    clear q13 B12 hnB
    -- odd things
    refine ⟨Nat.zero_le _, fun l nl => ⟨by show 1 ≤ sizeLine; decide, fun t nt d nd => ⟨by show 9 ≤ sizeLine; decide, fun L nL => ?_⟩⟩⟩
    have m1 := B13.sta.ne nl
    have m2 := (B13.same (Same.new nl (o := .lst []))).sta.ne nt
    have m3 := ((B13.same (Same.new nl (o := .lst []))).same (Same.new nt (o := .tup [.str "rice"]))).sta.ne nd
    have B14 := ((((((B13.same (Same.new nl (o := .lst []))).add (er_of m1 upd_same) (fun _ z => by cases z)).same (Same.new nt (o := .tup [.str "rice"]))).add (er_of m2 upd_same) (fun _ z => by cases z)).same (Same.new nd (o := .dK []))).add (er_of m3 upd_same) (fun _ z => by cases z))
    have m4 := B14.sta.ne nL
    have B14 := (B14.same (Same.new nL (o := .lst [.str "late", .str "clock", .str "", .non, .int 5, .ref l, .ref t, .ref d, .bl true]))).add (er_of m4 upd_same) (fun _ z => by cases z)
    generalize upd (upd (upd (upd H13 l (.lst [])) t (.tup [.str "rice"])) d (.dK [])) L (.lst [.str "late", .str "clock", .str "", .non, .int 5, .ref l, .ref t, .ref d, .bl true]) = H14 at B14 ⊢
    refine ⟨L, rfl, ⟨_, SqL.of (B14.at_ (.head _))⟩, for_it (walk_list (K := K) (a := L)) (fun j σ' H' => ∃ u14, σ' = [some (.ref a), some (.ref st), some (.int (0 + (i : Int))), some (.ref pn), some (.ref pr), some (.ref pg), some (.ref p), some (.ref pu), some (.ref pd), some (.ref pl), u10, u11, u12, u13, u14, v15, v16] ∧ Bd st c Pt (1000 * (i : Int) + 300) _ H')
      ⟨_, rfl, B14⟩ (fun j σ' H' _ z => by
        obtain ⟨_, _, B⟩ := z
        exact SqL.of (B.at_ (.head _))) ?_ (fun σ' H15 z => ?_)⟩
    · clear B14 B13 m1 m2 m3 m4 nl nt nd nL
      rintro j x σ' H' H'' hj ⟨u14, rfl, B⟩ ⟨rfl, hx⟩
      have hx := List.mem_of_getElem? hx
      refine ⟨B.tab, fun G1 eN T1 => ?_⟩
      have B := B.ext eN T1
      have fq := B.at_ (.tail _ (.tail _ (.tail _ (.tail _ (.tail _ (.tail _ (.tail _ (.head _))))))))
      have fp := B.at_ (.tail _ (.tail _ (.tail _ (.tail _ (.tail _ (.tail _ (.tail _ (.tail _ (.head _)))))))))
      have od := odd_ok (K := K) (rs := rs) (B.at_ (.tail _ (.tail _ (.tail _ (.head _))))) (B.at_ (.tail _ (.tail _ (.head _)))) (B.at_ (.tail _ (.head _))) (fun s h => hpool s (hup.mem_iff.mp (by rw [← e0]; exact h))) hx
      refine ⟨_, rfl, p, dx2, _, rfl, fp, rfl, _, rfl, p, q, rs, x, rfl, ⟨⟨dx2, fp⟩, fq⟩, rN, .inr ⟨G1, od.1, od.2, fun y dd G2 s2 hdd sd => ⟨rfl, dd, y, rfl, hdd, fun t1 nt1 => ?_⟩⟩⟩
      have B := B.same s2
      have s3 := Same.new nt1 (o := .tup [.str "none", y])
      have sd := sd_up sd s3
      have B := B.same s3
      have h1 : upd G2 t1 (.tup [.str "none", y]) t1 = some (.tup [.str "none", y]) := upd_same
      generalize upd G2 t1 (.tup [.str "none", y]) = G3 at B sd h1 ⊢
      refine ⟨_, rfl, by show 2 ≤ sizeLine; decide, fun t2 nt2 => ?_⟩
      have s4 := Same.new nt2 (o := .tup [.str "none", x])
      refine .inr ⟨t1, t2, y, x, "none", rfl, s4 _ _ h1, upd_same, sd_up (sd_symm (Or.elim sd (fun ⟨d, a1, a2, a3, a4⟩ => .inl ⟨d, a1, a2, by omega, a4⟩) .inr)) s4, fun G4 s5 => ⟨_, rfl, iteF ?_⟩⟩
      exact ⟨_, rfl, (B.same s4).same s5⟩
    obtain ⟨u14, rfl, B15⟩ := z
    clear B14 B13 m1 m2 m3 m4 nl nt nd nL
    have B16 := (((((B15.nil.addM B15 (.tail _ (.tail _ (.tail _ (.tail _ (.tail _ (.tail _ (.tail _ (.tail _ (.tail _ (.tail _ (.head _)))))))))))).addM B15 (.tail _ (.tail _ (.tail _ (.tail _ (.tail _ (.tail _ (.tail _ (.tail _ (.tail _ (.head _))))))))))).addM B15 (.tail _ (.tail _ (.tail _ (.tail _ (.tail _ (.tail _ (.tail _ (.tail _ (.head _)))))))))).addM B15 (.tail _ (.tail _ (.tail _ (.tail _ (.tail _ (.tail _ (.tail _ (.head _))))))))).addM B15 (.tail _ (.tail _ (.tail _ (.tail _ (.tail _ (.head _)))))))
    clear B15
    -- the others
    have fd := B16.at_ (.head _)
    have fr := B16.at_ (.tail _ (.tail _ (.tail _ (.head _))))
    refine ⟨_, rfl, _, rfl, pr, .inr "qq", .str "clock", kvR rows, rfl, .inl fr, by rw [kvR_len]; omega, fun pw H16 npw s16 hw => ?_⟩
    have B17 := B16.same s16
    have nqq : ("qq" : Str) ∉ ksR rows := fun m => absurd (hpool "qq" (hperm.mem_iff.mp m)) (show ("qq" : Str) ∉ pool by decide +kernel)
    rw [qq_put nqq] at hw
    have hO2 := qq_ok nqq hO tree (by omega)
    refine fun x2 dx2' nx2 ndx2 nex2 => ?_
    have sM : Same H16 (upd (upd H16 dx2' (.own x2)) x2 (.ins A.a_Hanging dx2' [])) := fun b u e => by rw [upd_ne (ne_of_none e nx2), upd_ne (ne_of_none e ndx2)]; exact e
    refine ⟨x2, dx2', pw, _, _, rfl, upd_same, sM _ _ hw, hO2, fun H17 q2 rs2 ⟨⟨dx4, hx2⟩, hq2⟩ nq2 asc2 sS => ⟨rfl, ?_⟩⟩
    have s17 := made nx2 ndx2 sS
    have B18 := ((B17.same s17).add (er_of (B17.sta.ne nx2) hx2) (fun _ z => by cases z)).add (er_of (B17.sta.ne (madeN nx2 ndx2 nq2)) hq2) (fun _ z => by cases z)
    have l2 : rs2.length = rows.length + 1 := by
      have := asc2.keys.length_eq
      rw [ksR_len, ksR_len, List.length_append, List.length_singleton] at this
      exact this
    clear sM sS hw nq2 npw s16 s17 hx2 hq2 nx2 ndx2 B16 B17 fd fr
    refine ⟨_, rfl, _, rfl, st, c, pn, ns, _, rfl, B18.sta, by omega, SqL.of (B18.fac _ _ (.tail _ (.tail _ (.tail _ (.tail _ (.tail _ (.tail _ (.head _)))))))), by omega, hnd, nok, fun pr3 rows3 H18 hperm3 tree3 g18 hr3 hr30 => ?_⟩
    have B19 := B18.gs g18
    have hr3' := (er_same _ _) _ _ hr3
    have kN3 : (ksR rows3).Nodup := hperm3.nodup_iff.mpr hnd
    have hO3 : ROk (fun s => (ksR rows3).idxOf s) rows3 := ROk.tree kN3 (fun s m => by
      have m2 := hperm3.mem_iff.mp m
      exact ⟨pool_nm s (hpool s m2), nok s m2⟩) (by rw [← ksR_len, hperm3.length_eq]; omega) tree3
    refine fun x3 dx3 nx3 ndx3 nex3 => ?_
    have sM : Same H18 (upd (upd H18 dx3 (.own x3)) x3 (.ins A.a_Hanging dx3 [])) := fun b u e => by rw [upd_ne (ne_of_none e nx3), upd_ne (ne_of_none e ndx3)]; exact e
    refine ⟨x3, dx3, pr3, _, _, rfl, upd_same, sM _ _ hr3', hO3, fun H19 q3 rs3 ⟨⟨dx5, hx3⟩, hq3⟩ nq3 asc3 sS => ⟨rfl, ?_⟩⟩
    have s19 := made nx3 ndx3 sS
    have B20 := ((B19.same s19).add (er_of (B19.sta.ne nx3) hx3) (fun _ z => by cases z)).add (er_of (B19.sta.ne (madeN nx3 ndx3 nq3)) hq3) (fun _ z => by cases z)
    have e3 : ksR rs3 = up := asc_eq (asc3.keys.trans (hperm3.trans hup.symm)) asc3.asc husort
    clear sM sS nq3 s19 hx3 hq3 nx3 ndx3 hr3 hr3' hr30 g18 B18 B19
    refine ⟨by show 4 ≤ sizeLine; decide, fun Lo nLo => ?_⟩
    have mLo := B20.sta.ne nLo
    have B21 := (B20.same (Same.new nLo (o := .lst [.non, .ref pd, .ref x2, .ref x3]))).add (er_of mLo upd_same) (fun _ z => by cases z)
    generalize upd H19 Lo (.lst [.non, .ref pd, .ref x2, .ref x3]) = H20 at B21 ⊢
    clear B20 nLo mLo
    refine ⟨_, rfl, _, rfl, Lo, _, rfl, SqL.of (B21.at_ (.head _)), fun e ne => ?_⟩
    have ec : cutV [V.non, .ref pd, .ref x2, .ref x3] none (some 3) = [V.non, .ref pd, .ref x2] := by
      unfold cutV
      rw [HT.sIx_none, show (3 : Int) = ((3 : Nat) : Int) from rfl, HT.sIx_nat]; rfl
    rw [ec]
    have me := B21.sta.ne ne
    have B22 := (B21.same (Same.new ne (o := .lst [.non, .ref pd, .ref x2]))).add (er_of me upd_same) (fun _ z => by cases z)
    generalize upd H20 e (.lst [.non, .ref pd, .ref x2]) = H21 at B22 ⊢
    clear B21 ne me
    refine ⟨e, rfl, ⟨_, SqL.of (B22.at_ (.head _))⟩, for_it (walk_list (K := K) (a := e)) (fun j σ' H' => ∃ u16, σ' = [some (.ref a), some (.ref st), some (.int (0 + (i : Int))), some (.ref pn), some (.ref pr), some (.ref pg), some (.ref p), some (.ref pu), some (.ref pd), some (.ref pl), u10, u11, u12, u13, u14, some (.ref Lo), u16] ∧ Bd st c Pt _ _ H')
      ⟨_, rfl, B22⟩ (fun j σ' H' _ z => by
        obtain ⟨_, _, B⟩ := z
        exact SqL.of (B.at_ (.head _))) ?_ (fun σ' H22 z => ?_)⟩
    · clear B22
      rintro j x σ' H' H'' hj ⟨u16, rfl, B⟩ ⟨rfl, hx⟩
      have hx := List.mem_of_getElem? hx
      have fq2 := B.at_ (.tail _ (.tail _ (.tail _ (.tail _ (.head _)))))
      have fx2 := B.at_ (.tail _ (.tail _ (.tail _ (.tail _ (.tail _ (.head _))))))
      have fd := B.at_ (.tail _ (.tail _ (.tail _ (.tail _ (.tail _ (.tail _ (.head _)))))))
      have fq := B.at_ (.tail _ (.tail _ (.tail _ (.tail _ (.tail _ (.tail _ (.tail _ (.head _))))))))
      have fp := B.at_ (.tail _ (.tail _ (.tail _ (.tail _ (.tail _ (.tail _ (.tail _ (.tail _ (.head _)))))))))
      have hg : HgAt A.a_Hanging H'' p q rs := ⟨⟨dx2, fp⟩, fq⟩
      have l1 : rs.length = rows.length := by rw [← ksR_len, ← ksR_len]; exact asc.keys.length_eq
      have hg2 : HgAt A.a_Hanging H'' x2 q2 rs2 := ⟨⟨dx4, fx2⟩, fq2⟩
      have q12 : eqR rs rs2 = false := eqR_len (by omega)
      have q21 : eqR rs2 rs = false := eqR_len (by omega)
      simp only [List.mem_cons, List.not_mem_nil, or_false] at hx
      rcases hx with e | e | e <;> subst e
      · refine ⟨_, rfl, _, rfl, p, dx2, _, rfl, fp, .ty (T := "NoneType") .non T.nfN, p, q, rs, _, rfl, hg, .inr (.inl ⟨rfl, false, rfl, _, rfl, iteF ?_⟩)⟩
        refine ⟨_, rfl, _, rfl, .inl ⟨rfl, p, dx2, _, rfl, fp, p, q, rs, _, rfl, hg, .inr (.inl ⟨rfl, false, rfl, _, rfl, iteF ?_⟩)⟩⟩
        exact ⟨_, rfl, _, rfl, p, dx2, _, rfl, fp, .ty (T := "NoneType") .non T.nfN, p, q, rs, _, rfl, hg, .inr (.inl ⟨rfl, false, rfl, _, rfl, iteF ⟨_, rfl, B⟩⟩)⟩
      · refine ⟨_, rfl, _, rfl, p, dx2, _, rfl, fp, .ty (T := "dict") (.dK fd) T.nfD, p, q, rs, _, rfl, hg, .inr (.inr ⟨pd, _, rfl, fd, false, rfl, _, rfl, iteF ?_⟩)⟩
        refine ⟨_, rfl, _, rfl, .inr (.inl ⟨pd, _, p, dx2, _, rfl, fd, rfl, fp, p, q, rs, _, rfl, hg, .inr (.inr ⟨pd, _, rfl, fd, false, rfl, _, rfl, iteF ?_⟩)⟩)⟩
        exact ⟨_, rfl, _, rfl, p, dx2, _, rfl, fp, .ty (T := "dict") (.dK fd) T.nfD, p, q, rs, _, rfl, hg, .inr (.inr ⟨pd, _, rfl, fd, false, rfl, _, rfl, iteF ⟨_, rfl, B⟩⟩)⟩
      · refine ⟨_, rfl, _, rfl, p, dx2, _, rfl, fp, .ins fx2 T.nfH, p, q, rs, _, rfl, hg, .inl ⟨x2, q2, rs2, rfl, hg2, false, by rw [q12], _, rfl, iteF ?_⟩⟩
        refine ⟨_, rfl, _, rfl, .inr (.inr ⟨x2, dx4, _, rfl, fx2, .ins fp T.nfH, x2, q2, rs2, _, rfl, hg2, .inl ⟨p, q, rs, rfl, hg, false, by rw [q21], _, rfl, iteF ?_⟩⟩)⟩
        exact ⟨_, rfl, _, rfl, p, dx2, _, rfl, fp, .ins fx2 T.nfH, p, q, rs, _, rfl, hg, .inl ⟨x2, q2, rs2, rfl, hg2, false, by rw [q12], _, rfl, iteF ⟨_, rfl, B⟩⟩⟩
    obtain ⟨u16, rfl, B23⟩ := z
    clear B22
    have fq3 := B23.at_ (.tail _ (.tail _ (.head _)))
    have fx3 := B23.at_ (.tail _ (.tail _ (.tail _ (.head _))))
    have fLo := B23.at_ (.tail _ (.head _))
    have fd := B23.at_ (.tail _ (.tail _ (.tail _ (.tail _ (.tail _ (.tail _ (.head _)))))))
    have fq := B23.at_ (.tail _ (.tail _ (.tail _ (.tail _ (.tail _ (.tail _ (.tail _ (.head _))))))))
    have fp := B23.at_ (.tail _ (.tail _ (.tail _ (.tail _ (.tail _ (.tail _ (.tail _ (.tail _ (.head _)))))))))
    have hg : HgAt A.a_Hanging H22 p q rs := ⟨⟨dx2, fp⟩, fq⟩
    have hg3 : HgAt A.a_Hanging H22 x3 q3 rs3 := ⟨⟨dx5, fx3⟩, fq3⟩
    have rN3 : (ksR rs3).Nodup := by rw [e3, ← e0]; exact rN
    have b1 : eqR rs rs3 = decide (rs = rs3) := eqR_same (by rw [e0, e3]) rN3
    have b2 : eqR rs3 rs = decide (rs = rs3) := (eqR_same (by rw [e0, e3]) rN).trans (decide_eq_decide.mpr ⟨Eq.symm, Eq.symm⟩)
    refine ⟨_, rfl, _, rfl, _, _, _, _, rfl, rfl, SqL.of fLo, rfl, p, dx2, _, rfl, fp, .ins fx3 T.nfH, p, q, rs, _, rfl, hg, .inl ⟨x3, q3, rs3, rfl, hg3, _, rfl, ?_⟩⟩
    refine ⟨_, rfl, _, _, _, _, rfl, rfl, SqL.of fLo, rfl, x3, dx5, _, rfl, fx3, rfl, x3, q3, rs3, rfl, hg3, fun lr nlr => ?_⟩
    have s24 := Same.new nlr (o := .dK (kvR rs3))
    have B24 := B23.same s24
    refine ⟨_, rfl, lr, pd, kvR rs3, kvR rs, rfl, rfl, upd_same, s24 _ _ fd, kvR_flat, kvR_flatV, ?_⟩
    have fd4 := s24 _ _ fd
    have fp4 := s24 _ _ fp
    have hg4 := hg.up s24
    generalize upd H22 lr (.dK (kvR rs3)) = H24 at B24 fd4 fp4 hg4 ⊢
    clear s24 B23 fd fp fq fx3 fq3 fLo hg hg3
    have b3 : ((kvR rs3).length == (kvR rs).length && Own.eqKv (kvR rs3) (kvR rs)) = decide (rs = rs3) := by rw [kvR_len, kvR_len]; exact b2
    rw [b3]
    refine ⟨rfl, _, rfl, ?_⟩
    rw [b1]
    refine ite2 (fun z => ?_) (fun _ => ?_)
    · exact absurd z (by simp)
    refine ⟨_, rfl, _, rfl, fun x5 dx6 nx5 ndx6 nex5 => ?_⟩
    have sM : Same H24 (upd (upd H24 dx6 (.own x5)) x5 (.ins A.a_Hanging dx6 [])) := fun b u e => by rw [upd_ne (ne_of_none e nx5), upd_ne (ne_of_none e ndx6)]; exact e
    refine ⟨x5, dx6, pd, _, rs, rfl, upd_same, sM _ _ fd4, asO, fun H25 q5 rs5 hg5 nq5 asc5 sS => ⟨rfl, ?_⟩⟩
    have s25 := made nx5 ndx6 sS
    have e5 : rs = rs5 := asc_uniq rN (asc_self asc.asc) asc5
    have B25 := B24.same s25
    obtain ⟨⟨dx7, hx5⟩, hq5⟩ := hg5
    refine ⟨p, dx2, _, rfl, s25 _ _ fp4, .ins hx5 T.nfH, p, q, rs, _, rfl, hg4.up s25, .inl ⟨x5, q5, rs5, rfl, ⟨⟨dx7, hx5⟩, hq5⟩, true, by rw [← e5, eqR_refl rN], _, rfl, iteF ?_⟩⟩
    exact ⟨_, _, _, _, _, _, _, _, _, _, _, _, _, _, _, rfl, (B25.nil).le (by omega) (by omega)⟩
end
end K5
set_option Elab.async false
set_option linter.all false
set_option maxRecDepth 100000
set_option maxHeartbeats 4000000
namespace K5
open PySem L2
local macro_rules | `(tactic| walk_at "rd1") => `(tactic| first
  | refine ⟨_, _, rfl, rfl, ?_⟩
  | refine ⟨_, _, _, _, rfl, rfl, SqL.of (by assumption), rfl, ?_⟩
  | refine ⟨_, _, _, _, rfl, rfl, (by assumption), rfl, ?_⟩
  | refine .inl ⟨_, rfl, ?_⟩
  | refine ⟨_, rfl, ?_⟩
  | refine ⟨(by unfold CMul; omega), ?_⟩
  | refine ⟨(by unfold CPow; omega), ?_⟩
  | refine ⟨(by (try dsimp only); omega), ?_⟩
  | refine ⟨(by unfold CDiv; omega), ?_⟩
  | fail "rd1")
local macro_rules | `(tactic| walk_at "rd") => `(tactic| repeat' (walk_at "rd1"))
section
variable {P : Program} {w : World} {K : PySem.W.Frag} {mg : Str → Option Value} {base : Heap} {A : Ad}

theorem all_mk {l : PySem.W.OpenLaw} {w : World} {K : PySem.W.Frag} {h : Heap} {mg : Str → Option Value} {fa c0 Pt : Addr} (X : K.In h) (G : h.Ns mainGlobals mg) (hfa : mg ("law" : Str) = some (.ref fa))
    {c_NoDish : Addr} {nm_NoDish qn_NoDish : Str} {N_NoDish : Addr} {bs_NoDish bm_NoDish sb_NoDish : List Value} {sn_NoDish : List Str} {ab_NoDish : Bool} {col_NoDish : Option Bool} {dd_NoDish : Option Addr} {k0_NoDish k1_NoDish k2_NoDish k3_NoDish k5_NoDish : Option Value}
    (y1_NoDish : PySem.W.nsIn K mainGlobals "NoDish" = some (some (.ref c_NoDish)))
    (oe_NoDish : K.lookup c_NoDish = some (excClassObj nm_NoDish qn_NoDish c_NoDish N_NoDish bs_NoDish bm_NoDish true sn_NoDish sb_NoDish ab_NoDish col_NoDish dd_NoDish k0_NoDish k1_NoDish k2_NoDish k3_NoDish k5_NoDish "ValueError.__new__")) (re_NoDish : PySem.HandSPX.refsVE bm_NoDish = true) (sa_NoDish : PySem.W.findIn K (.ref c_NoDish) "__setattr__" = some (some (.builtin "object.__setattr__"))) (sx_NoDish : PySem.W.subIn K (.ref c_NoDish) (.type "BaseException") = some true) (ty_NoDish : PySem.W.typeIn K (.ref c_NoDish) = some (.type "type")) (ke_NoDish : PySem.W.keepIn K (.ref c_NoDish) = true)
    (ga_NoDish : PySem.W.findIn K (.ref c_NoDish) "__getattribute__" = some (some (.builtin "BaseException.__getattribute__"))) (gg_NoDish : PySem.W.findIn K (.ref c_NoDish) "__getattr__" = some none) (hd_NoDish : PySem.W.hasDictIn K c_NoDish = true)
    (z_NoDish_name : PySem.W.findIn K (.ref c_NoDish) "name" = some none)
    {c_Hanging : Addr}
    (y1_Hanging : PySem.W.nsIn K mainGlobals "Hanging" = some (some (.ref c_Hanging)))
    (y2_Hanging : PySem.W.plainGet K c_Hanging Str.empty = true) (y3_Hanging : PySem.W.hasDictIn K c_Hanging = true) (y4_Hanging : PySem.W.plainOver K c_Hanging = true) (y5_Hanging : PySem.W.findIn K (.ref c_Hanging) "__setattr__" = some (some (.builtin "object.__setattr__"))) (y6_Hanging : PySem.W.makesIn K c_Hanging = true) (y7_Hanging : PySem.W.keepIn K (.ref c_Hanging) = true)
    (z_Hanging_hooks : PySem.W.findIn K (.ref c_Hanging) "hooks" = some none)
    {f_is_name : Addr} {od_is_name an_is_name : Option Addr} {sl_is_name : Array (Option Value)} {oc_is_name kV_is_name dc_is_name pm_is_name cd_is_name ct_is_name : Value}
    (x1_is_name : PySem.W.nsIn K mainGlobals "is_name" = some (some (.ref f_is_name)))
    (x2_is_name : K.lookup f_is_name = some ⟨oc_is_name, od_is_name, .func (PySem.W.fnOf "is_name" "is_name" (defArgs s_is_name) (defBody s_is_name) (defScope s_is_name) .none kV_is_name dc_is_name pm_is_name an_is_name cd_is_name ct_is_name), sl_is_name⟩)
    (x3_is_name : PySem.W.codeIn K cd_is_name "is_name" = true) (x4_is_name : PySem.W.keepIn K (.ref f_is_name) = true)
    {f_is_dish : Addr} {od_is_dish an_is_dish : Option Addr} {sl_is_dish : Array (Option Value)} {oc_is_dish kV_is_dish dc_is_dish pm_is_dish cd_is_dish ct_is_dish : Value}
    (x1_is_dish : PySem.W.nsIn K mainGlobals "is_dish" = some (some (.ref f_is_dish)))
    (x2_is_dish : K.lookup f_is_dish = some ⟨oc_is_dish, od_is_dish, .func (PySem.W.fnOf "is_dish" "is_dish" (defArgs s_is_dish) (defBody s_is_dish) (defScope s_is_dish) .none kV_is_dish dc_is_dish pm_is_dish an_is_dish cd_is_dish ct_is_dish), sl_is_dish⟩)
    (x3_is_dish : PySem.W.codeIn K cd_is_dish "is_dish" = true) (x4_is_dish : PySem.W.keepIn K (.ref f_is_dish) = true)
    {f_alike : Addr} {od_alike an_alike : Option Addr} {sl_alike : Array (Option Value)} {oc_alike kV_alike dc_alike pm_alike cd_alike ct_alike : Value}
    (x1_alike : PySem.W.nsIn K mainGlobals "alike" = some (some (.ref f_alike)))
    (x2_alike : K.lookup f_alike = some ⟨oc_alike, od_alike, .func (PySem.W.fnOf "alike" "alike" (defArgs s_alike) (defBody s_alike) (defScope s_alike) .none kV_alike dc_alike pm_alike an_alike cd_alike ct_alike), sl_alike⟩)
    (x3_alike : PySem.W.codeIn K cd_alike "alike" = true) (x4_alike : PySem.W.keepIn K (.ref f_alike) = true)
    {f_copied : Addr} {od_copied an_copied : Option Addr} {sl_copied : Array (Option Value)} {oc_copied kV_copied dc_copied pm_copied cd_copied ct_copied : Value}
    (x1_copied : PySem.W.nsIn K mainGlobals "copied" = some (some (.ref f_copied)))
    (x2_copied : K.lookup f_copied = some ⟨oc_copied, od_copied, .func (PySem.W.fnOf "copied" "copied" (defArgs s_copied) (defBody s_copied) (defScope s_copied) .none kV_copied dc_copied pm_copied an_copied cd_copied ct_copied), sl_copied⟩)
    (x3_copied : PySem.W.codeIn K cd_copied "copied" = true) (x4_copied : PySem.W.keepIn K (.ref f_copied) = true)
    {f_NoDish___init__ : Addr} {od_NoDish___init__ an_NoDish___init__ : Option Addr} {sl_NoDish___init__ : Array (Option Value)} {oc_NoDish___init__ kV_NoDish___init__ dc_NoDish___init__ pm_NoDish___init__ cd_NoDish___init__ ct_NoDish___init__ : Value}
    (x1_NoDish___init__ : PySem.W.findIn K (.ref c_NoDish) "__init__" = some (some (.ref f_NoDish___init__))) (x5_NoDish___init__ : PySem.W.isFn K (.ref f_NoDish___init__) = true)
    (x2_NoDish___init__ : K.lookup f_NoDish___init__ = some ⟨oc_NoDish___init__, od_NoDish___init__, .func (PySem.W.fnOf "__init__" "NoDish.__init__" (defArgs s_NoDish___init__) (defBody s_NoDish___init__) (defScope s_NoDish___init__) .none kV_NoDish___init__ dc_NoDish___init__ pm_NoDish___init__ an_NoDish___init__ cd_NoDish___init__ ct_NoDish___init__), sl_NoDish___init__⟩)
    (x3_NoDish___init__ : PySem.W.codeIn K cd_NoDish___init__ "NoDish.__init__" = true) (x4_NoDish___init__ : PySem.W.keepIn K (.ref f_NoDish___init__) = true)
    {f_check_dish : Addr} {od_check_dish an_check_dish : Option Addr} {sl_check_dish : Array (Option Value)} {oc_check_dish kV_check_dish dc_check_dish pm_check_dish cd_check_dish ct_check_dish : Value}
    (x1_check_dish : PySem.W.nsIn K mainGlobals "check_dish" = some (some (.ref f_check_dish)))
    (x2_check_dish : K.lookup f_check_dish = some ⟨oc_check_dish, od_check_dish, .func (PySem.W.fnOf "check_dish" "check_dish" (defArgs s_check_dish) (defBody s_check_dish) (defScope s_check_dish) .none kV_check_dish dc_check_dish pm_check_dish an_check_dish cd_check_dish ct_check_dish), sl_check_dish⟩)
    (x3_check_dish : PySem.W.codeIn K cd_check_dish "check_dish" = true) (x4_check_dish : PySem.W.keepIn K (.ref f_check_dish) = true)
    {f_way_up : Addr} {od_way_up an_way_up : Option Addr} {sl_way_up : Array (Option Value)} {oc_way_up kV_way_up dc_way_up pm_way_up cd_way_up ct_way_up : Value}
    (x1_way_up : PySem.W.nsIn K mainGlobals "way_up" = some (some (.ref f_way_up)))
    (x2_way_up : K.lookup f_way_up = some ⟨oc_way_up, od_way_up, .func (PySem.W.fnOf "way_up" "way_up" (defArgs s_way_up) (defBody s_way_up) (defScope s_way_up) .none kV_way_up dc_way_up pm_way_up an_way_up cd_way_up ct_way_up), sl_way_up⟩)
    (x3_way_up : PySem.W.codeIn K cd_way_up "way_up" = true) (x4_way_up : PySem.W.keepIn K (.ref f_way_up) = true)
    {f_Hanging___init__ : Addr} {od_Hanging___init__ an_Hanging___init__ : Option Addr} {sl_Hanging___init__ : Array (Option Value)} {oc_Hanging___init__ kV_Hanging___init__ dc_Hanging___init__ pm_Hanging___init__ cd_Hanging___init__ ct_Hanging___init__ : Value}
    (x1_Hanging___init__ : PySem.W.findIn K (.ref c_Hanging) "__init__" = some (some (.ref f_Hanging___init__))) (x5_Hanging___init__ : PySem.W.isFn K (.ref f_Hanging___init__) = true)
    (x2_Hanging___init__ : K.lookup f_Hanging___init__ = some ⟨oc_Hanging___init__, od_Hanging___init__, .func (PySem.W.fnOf "__init__" "Hanging.__init__" (defArgs s_Hanging___init__) (defBody s_Hanging___init__) (defScope s_Hanging___init__) .none kV_Hanging___init__ dc_Hanging___init__ pm_Hanging___init__ an_Hanging___init__ cd_Hanging___init__ ct_Hanging___init__), sl_Hanging___init__⟩)
    (x3_Hanging___init__ : PySem.W.codeIn K cd_Hanging___init__ "Hanging.__init__" = true) (x4_Hanging___init__ : PySem.W.keepIn K (.ref f_Hanging___init__) = true)
    {f_Hanging_rows : Addr} {od_Hanging_rows an_Hanging_rows : Option Addr} {sl_Hanging_rows : Array (Option Value)} {oc_Hanging_rows kV_Hanging_rows dc_Hanging_rows pm_Hanging_rows cd_Hanging_rows ct_Hanging_rows : Value}
    (x1_Hanging_rows : PySem.W.findIn K (.ref c_Hanging) "rows" = some (some (.ref f_Hanging_rows))) (x5_Hanging_rows : PySem.W.isFn K (.ref f_Hanging_rows) = true)
    (x2_Hanging_rows : K.lookup f_Hanging_rows = some ⟨oc_Hanging_rows, od_Hanging_rows, .func (PySem.W.fnOf "rows" "Hanging.rows" (defArgs s_Hanging_rows) (defBody s_Hanging_rows) (defScope s_Hanging_rows) .none kV_Hanging_rows dc_Hanging_rows pm_Hanging_rows an_Hanging_rows cd_Hanging_rows ct_Hanging_rows), sl_Hanging_rows⟩)
    (x3_Hanging_rows : PySem.W.codeIn K cd_Hanging_rows "Hanging.rows" = true) (x4_Hanging_rows : PySem.W.keepIn K (.ref f_Hanging_rows) = true)
    {f_Hanging_dishes : Addr} {od_Hanging_dishes an_Hanging_dishes : Option Addr} {sl_Hanging_dishes : Array (Option Value)} {oc_Hanging_dishes kV_Hanging_dishes dc_Hanging_dishes pm_Hanging_dishes cd_Hanging_dishes ct_Hanging_dishes : Value}
    (x1_Hanging_dishes : PySem.W.findIn K (.ref c_Hanging) "dishes" = some (some (.ref f_Hanging_dishes))) (x5_Hanging_dishes : PySem.W.isFn K (.ref f_Hanging_dishes) = true)
    (x2_Hanging_dishes : K.lookup f_Hanging_dishes = some ⟨oc_Hanging_dishes, od_Hanging_dishes, .func (PySem.W.fnOf "dishes" "Hanging.dishes" (defArgs s_Hanging_dishes) (defBody s_Hanging_dishes) (defScope s_Hanging_dishes) .none kV_Hanging_dishes dc_Hanging_dishes pm_Hanging_dishes an_Hanging_dishes cd_Hanging_dishes ct_Hanging_dishes), sl_Hanging_dishes⟩)
    (x3_Hanging_dishes : PySem.W.codeIn K cd_Hanging_dishes "Hanging.dishes" = true) (x4_Hanging_dishes : PySem.W.keepIn K (.ref f_Hanging_dishes) = true)
    {f_Hanging_way : Addr} {od_Hanging_way an_Hanging_way : Option Addr} {sl_Hanging_way : Array (Option Value)} {oc_Hanging_way kV_Hanging_way dc_Hanging_way pm_Hanging_way cd_Hanging_way ct_Hanging_way : Value}
    (x1_Hanging_way : PySem.W.findIn K (.ref c_Hanging) "way" = some (some (.ref f_Hanging_way))) (x5_Hanging_way : PySem.W.isFn K (.ref f_Hanging_way) = true)
    (x2_Hanging_way : K.lookup f_Hanging_way = some ⟨oc_Hanging_way, od_Hanging_way, .func (PySem.W.fnOf "way" "Hanging.way" (defArgs s_Hanging_way) (defBody s_Hanging_way) (defScope s_Hanging_way) .none kV_Hanging_way dc_Hanging_way pm_Hanging_way an_Hanging_way cd_Hanging_way ct_Hanging_way), sl_Hanging_way⟩)
    (x3_Hanging_way : PySem.W.codeIn K cd_Hanging_way "Hanging.way" = true) (x4_Hanging_way : PySem.W.keepIn K (.ref f_Hanging_way) = true)
    {f_Hanging_looks : Addr} {od_Hanging_looks an_Hanging_looks : Option Addr} {sl_Hanging_looks : Array (Option Value)} {oc_Hanging_looks kV_Hanging_looks dc_Hanging_looks pm_Hanging_looks cd_Hanging_looks ct_Hanging_looks : Value}
    (x1_Hanging_looks : PySem.W.findIn K (.ref c_Hanging) "looks" = some (some (.ref f_Hanging_looks))) (x5_Hanging_looks : PySem.W.isFn K (.ref f_Hanging_looks) = true)
    (x2_Hanging_looks : K.lookup f_Hanging_looks = some ⟨oc_Hanging_looks, od_Hanging_looks, .func (PySem.W.fnOf "looks" "Hanging.looks" (defArgs s_Hanging_looks) (defBody s_Hanging_looks) (defScope s_Hanging_looks) .none kV_Hanging_looks dc_Hanging_looks pm_Hanging_looks an_Hanging_looks cd_Hanging_looks ct_Hanging_looks), sl_Hanging_looks⟩)
    (x3_Hanging_looks : PySem.W.codeIn K cd_Hanging_looks "Hanging.looks" = true) (x4_Hanging_looks : PySem.W.keepIn K (.ref f_Hanging_looks) = true)
    {f_Hanging___iter__ : Addr} {od_Hanging___iter__ an_Hanging___iter__ : Option Addr} {sl_Hanging___iter__ : Array (Option Value)} {oc_Hanging___iter__ kV_Hanging___iter__ dc_Hanging___iter__ pm_Hanging___iter__ cd_Hanging___iter__ ct_Hanging___iter__ : Value}
    (x1_Hanging___iter__ : PySem.W.findIn K (.ref c_Hanging) "__iter__" = some (some (.ref f_Hanging___iter__))) (x5_Hanging___iter__ : PySem.W.isFn K (.ref f_Hanging___iter__) = true)
    (x2_Hanging___iter__ : K.lookup f_Hanging___iter__ = some ⟨oc_Hanging___iter__, od_Hanging___iter__, .func (PySem.W.fnOf "__iter__" "Hanging.__iter__" (defArgs s_Hanging___iter__) (defBody s_Hanging___iter__) (defScope s_Hanging___iter__) .none kV_Hanging___iter__ dc_Hanging___iter__ pm_Hanging___iter__ an_Hanging___iter__ cd_Hanging___iter__ ct_Hanging___iter__), sl_Hanging___iter__⟩)
    (x3_Hanging___iter__ : PySem.W.codeIn K cd_Hanging___iter__ "Hanging.__iter__" = true) (x4_Hanging___iter__ : PySem.W.keepIn K (.ref f_Hanging___iter__) = true)
    {f_Hanging___eq__ : Addr} {od_Hanging___eq__ an_Hanging___eq__ : Option Addr} {sl_Hanging___eq__ : Array (Option Value)} {oc_Hanging___eq__ kV_Hanging___eq__ dc_Hanging___eq__ pm_Hanging___eq__ cd_Hanging___eq__ ct_Hanging___eq__ : Value}
    (x1_Hanging___eq__ : PySem.W.findIn K (.ref c_Hanging) "__eq__" = some (some (.ref f_Hanging___eq__))) (x5_Hanging___eq__ : PySem.W.isFn K (.ref f_Hanging___eq__) = true)
    (x2_Hanging___eq__ : K.lookup f_Hanging___eq__ = some ⟨oc_Hanging___eq__, od_Hanging___eq__, .func (PySem.W.fnOf "__eq__" "Hanging.__eq__" (defArgs s_Hanging___eq__) (defBody s_Hanging___eq__) (defScope s_Hanging___eq__) .none kV_Hanging___eq__ dc_Hanging___eq__ pm_Hanging___eq__ an_Hanging___eq__ cd_Hanging___eq__ ct_Hanging___eq__), sl_Hanging___eq__⟩)
    (x3_Hanging___eq__ : PySem.W.codeIn K cd_Hanging___eq__ "Hanging.__eq__" = true) (x4_Hanging___eq__ : PySem.W.keepIn K (.ref f_Hanging___eq__) = true)
    {f_check_rows : Addr} {od_check_rows an_check_rows : Option Addr} {sl_check_rows : Array (Option Value)} {oc_check_rows kV_check_rows dc_check_rows pm_check_rows cd_check_rows ct_check_rows : Value}
    (x1_check_rows : PySem.W.nsIn K mainGlobals "check_rows" = some (some (.ref f_check_rows)))
    (x2_check_rows : K.lookup f_check_rows = some ⟨oc_check_rows, od_check_rows, .func (PySem.W.fnOf "check_rows" "check_rows" (defArgs s_check_rows) (defBody s_check_rows) (defScope s_check_rows) .none kV_check_rows dc_check_rows pm_check_rows an_check_rows cd_check_rows ct_check_rows), sl_check_rows⟩)
    (x3_check_rows : PySem.W.codeIn K cd_check_rows "check_rows" = true) (x4_check_rows : PySem.W.keepIn K (.ref f_check_rows) = true)
    {f_is_hook : Addr} {od_is_hook an_is_hook : Option Addr} {sl_is_hook : Array (Option Value)} {oc_is_hook kV_is_hook dc_is_hook pm_is_hook cd_is_hook ct_is_hook : Value}
    (x1_is_hook : PySem.W.nsIn K mainGlobals "is_hook" = some (some (.ref f_is_hook)))
    (x2_is_hook : K.lookup f_is_hook = some ⟨oc_is_hook, od_is_hook, .func (PySem.W.fnOf "is_hook" "is_hook" (defArgs s_is_hook) (defBody s_is_hook) (defScope s_is_hook) .none kV_is_hook dc_is_hook pm_is_hook an_is_hook cd_is_hook ct_is_hook), sl_is_hook⟩)
    (x3_is_hook : PySem.W.codeIn K cd_is_hook "is_hook" = true) (x4_is_hook : PySem.W.keepIn K (.ref f_is_hook) = true)
    {f_check_rounds : Addr} {od_check_rounds an_check_rounds : Option Addr} {sl_check_rounds : Array (Option Value)} {oc_check_rounds kV_check_rounds dc_check_rounds pm_check_rounds cd_check_rounds ct_check_rounds : Value}
    (x1_check_rounds : PySem.W.nsIn K mainGlobals "check_rounds" = some (some (.ref f_check_rounds)))
    (x2_check_rounds : K.lookup f_check_rounds = some ⟨oc_check_rounds, od_check_rounds, .func (PySem.W.fnOf "check_rounds" "check_rounds" (defArgs s_check_rounds) (defBody s_check_rounds) (defScope s_check_rounds) .none kV_check_rounds dc_check_rounds pm_check_rounds an_check_rounds cd_check_rounds ct_check_rounds), sl_check_rounds⟩)
    (x3_check_rounds : PySem.W.codeIn K cd_check_rounds "check_rounds" = true) (x4_check_rounds : PySem.W.keepIn K (.ref f_check_rounds) = true)
    {f_round_from : Addr} {od_round_from an_round_from : Option Addr} {sl_round_from : Array (Option Value)} {oc_round_from kV_round_from dc_round_from pm_round_from cd_round_from ct_round_from : Value}
    (x1_round_from : PySem.W.nsIn K mainGlobals "round_from" = some (some (.ref f_round_from)))
    (x2_round_from : K.lookup f_round_from = some ⟨oc_round_from, od_round_from, .func (PySem.W.fnOf "round_from" "round_from" (defArgs s_round_from) (defBody s_round_from) (defScope s_round_from) .none kV_round_from dc_round_from pm_round_from an_round_from cd_round_from ct_round_from), sl_round_from⟩)
    (x3_round_from : PySem.W.codeIn K cd_round_from "round_from" = true) (x4_round_from : PySem.W.keepIn K (.ref f_round_from) = true)
    {f__law_fresh : Addr} {od__law_fresh an__law_fresh : Option Addr} {sl__law_fresh : Array (Option Value)} {oc__law_fresh kV__law_fresh dc__law_fresh pm__law_fresh cd__law_fresh ct__law_fresh : Value}
    (x1__law_fresh : PySem.W.nsIn K mainGlobals "_law_fresh" = some (some (.ref f__law_fresh)))
    (x2__law_fresh : K.lookup f__law_fresh = some ⟨oc__law_fresh, od__law_fresh, .func (PySem.W.fnOf "_law_fresh" "_law_fresh" (defArgs s__law_fresh) (defBody s__law_fresh) (defScope s__law_fresh) .none kV__law_fresh dc__law_fresh pm__law_fresh an__law_fresh cd__law_fresh ct__law_fresh), sl__law_fresh⟩)
    (x3__law_fresh : PySem.W.codeIn K cd__law_fresh "_law_fresh" = true) (x4__law_fresh : PySem.W.keepIn K (.ref f__law_fresh) = true)
    {f__law_take : Addr} {od__law_take an__law_take : Option Addr} {sl__law_take : Array (Option Value)} {oc__law_take kV__law_take dc__law_take pm__law_take cd__law_take ct__law_take : Value}
    (x1__law_take : PySem.W.nsIn K mainGlobals "_law_take" = some (some (.ref f__law_take)))
    (x2__law_take : K.lookup f__law_take = some ⟨oc__law_take, od__law_take, .func (PySem.W.fnOf "_law_take" "_law_take" (defArgs s__law_take) (defBody s__law_take) (defScope s__law_take) .none kV__law_take dc__law_take pm__law_take an__law_take cd__law_take ct__law_take), sl__law_take⟩)
    (x3__law_take : PySem.W.codeIn K cd__law_take "_law_take" = true) (x4__law_take : PySem.W.keepIn K (.ref f__law_take) = true)
    {f__law_one : Addr} {od__law_one an__law_one : Option Addr} {sl__law_one : Array (Option Value)} {oc__law_one kV__law_one dc__law_one pm__law_one cd__law_one ct__law_one : Value}
    (x1__law_one : PySem.W.nsIn K mainGlobals "_law_one" = some (some (.ref f__law_one)))
    (x2__law_one : K.lookup f__law_one = some ⟨oc__law_one, od__law_one, .func (PySem.W.fnOf "_law_one" "_law_one" (defArgs s__law_one) (defBody s__law_one) (defScope s__law_one) .none kV__law_one dc__law_one pm__law_one an__law_one cd__law_one ct__law_one), sl__law_one⟩)
    (x3__law_one : PySem.W.codeIn K cd__law_one "_law_one" = true) (x4__law_one : PySem.W.keepIn K (.ref f__law_one) = true)
    {f__law_mix : Addr} {od__law_mix an__law_mix : Option Addr} {sl__law_mix : Array (Option Value)} {oc__law_mix kV__law_mix dc__law_mix pm__law_mix cd__law_mix ct__law_mix : Value}
    (x1__law_mix : PySem.W.nsIn K mainGlobals "_law_mix" = some (some (.ref f__law_mix)))
    (x2__law_mix : K.lookup f__law_mix = some ⟨oc__law_mix, od__law_mix, .func (PySem.W.fnOf "_law_mix" "_law_mix" (defArgs s__law_mix) (defBody s__law_mix) (defScope s__law_mix) .none kV__law_mix dc__law_mix pm__law_mix an__law_mix cd__law_mix ct__law_mix), sl__law_mix⟩)
    (x3__law_mix : PySem.W.codeIn K cd__law_mix "_law_mix" = true) (x4__law_mix : PySem.W.keepIn K (.ref f__law_mix) = true)
    {f__law_same : Addr} {od__law_same an__law_same : Option Addr} {sl__law_same : Array (Option Value)} {oc__law_same kV__law_same dc__law_same pm__law_same cd__law_same ct__law_same : Value}
    (x1__law_same : PySem.W.nsIn K mainGlobals "_law_same" = some (some (.ref f__law_same)))
    (x2__law_same : K.lookup f__law_same = some ⟨oc__law_same, od__law_same, .func (PySem.W.fnOf "_law_same" "_law_same" (defArgs s__law_same) (defBody s__law_same) (defScope s__law_same) .none kV__law_same dc__law_same pm__law_same an__law_same cd__law_same ct__law_same), sl__law_same⟩)
    (x3__law_same : PySem.W.codeIn K cd__law_same "_law_same" = true) (x4__law_same : PySem.W.keepIn K (.ref f__law_same) = true)
    {f__law_same_dict : Addr} {od__law_same_dict an__law_same_dict : Option Addr} {sl__law_same_dict : Array (Option Value)} {oc__law_same_dict kV__law_same_dict dc__law_same_dict pm__law_same_dict cd__law_same_dict ct__law_same_dict : Value}
    (x1__law_same_dict : PySem.W.nsIn K mainGlobals "_law_same_dict" = some (some (.ref f__law_same_dict)))
    (x2__law_same_dict : K.lookup f__law_same_dict = some ⟨oc__law_same_dict, od__law_same_dict, .func (PySem.W.fnOf "_law_same_dict" "_law_same_dict" (defArgs s__law_same_dict) (defBody s__law_same_dict) (defScope s__law_same_dict) .none kV__law_same_dict dc__law_same_dict pm__law_same_dict an__law_same_dict cd__law_same_dict ct__law_same_dict), sl__law_same_dict⟩)
    (x3__law_same_dict : PySem.W.codeIn K cd__law_same_dict "_law_same_dict" = true) (x4__law_same_dict : PySem.W.keepIn K (.ref f__law_same_dict) = true)
    {f__law_names : Addr} {od__law_names an__law_names : Option Addr} {sl__law_names : Array (Option Value)} {oc__law_names kV__law_names dc__law_names pm__law_names cd__law_names ct__law_names : Value}
    (x1__law_names : PySem.W.nsIn K mainGlobals "_law_names" = some (some (.ref f__law_names)))
    (x2__law_names : K.lookup f__law_names = some ⟨oc__law_names, od__law_names, .func (PySem.W.fnOf "_law_names" "_law_names" (defArgs s__law_names) (defBody s__law_names) (defScope s__law_names) .none kV__law_names dc__law_names pm__law_names an__law_names cd__law_names ct__law_names), sl__law_names⟩)
    (x3__law_names : PySem.W.codeIn K cd__law_names "_law_names" = true) (x4__law_names : PySem.W.keepIn K (.ref f__law_names) = true)
    {f__law_rising : Addr} {od__law_rising an__law_rising : Option Addr} {sl__law_rising : Array (Option Value)} {oc__law_rising kV__law_rising dc__law_rising pm__law_rising cd__law_rising ct__law_rising : Value}
    (x1__law_rising : PySem.W.nsIn K mainGlobals "_law_rising" = some (some (.ref f__law_rising)))
    (x2__law_rising : K.lookup f__law_rising = some ⟨oc__law_rising, od__law_rising, .func (PySem.W.fnOf "_law_rising" "_law_rising" (defArgs s__law_rising) (defBody s__law_rising) (defScope s__law_rising) .none kV__law_rising dc__law_rising pm__law_rising an__law_rising cd__law_rising ct__law_rising), sl__law_rising⟩)
    (x3__law_rising : PySem.W.codeIn K cd__law_rising "_law_rising" = true) (x4__law_rising : PySem.W.keepIn K (.ref f__law_rising) = true)
    {f__law_hung : Addr} {od__law_hung an__law_hung : Option Addr} {sl__law_hung : Array (Option Value)} {oc__law_hung kV__law_hung dc__law_hung pm__law_hung cd__law_hung ct__law_hung : Value}
    (x1__law_hung : PySem.W.nsIn K mainGlobals "_law_hung" = some (some (.ref f__law_hung)))
    (x2__law_hung : K.lookup f__law_hung = some ⟨oc__law_hung, od__law_hung, .func (PySem.W.fnOf "_law_hung" "_law_hung" (defArgs s__law_hung) (defBody s__law_hung) (defScope s__law_hung) .none kV__law_hung dc__law_hung pm__law_hung an__law_hung cd__law_hung ct__law_hung), sl__law_hung⟩)
    (x3__law_hung : PySem.W.codeIn K cd__law_hung "_law_hung" = true) (x4__law_hung : PySem.W.keepIn K (.ref f__law_hung) = true)
    {f__law_with : Addr} {od__law_with an__law_with : Option Addr} {sl__law_with : Array (Option Value)} {oc__law_with kV__law_with dc__law_with pm__law_with cd__law_with ct__law_with : Value}
    (x1__law_with : PySem.W.nsIn K mainGlobals "_law_with" = some (some (.ref f__law_with)))
    (x2__law_with : K.lookup f__law_with = some ⟨oc__law_with, od__law_with, .func (PySem.W.fnOf "_law_with" "_law_with" (defArgs s__law_with) (defBody s__law_with) (defScope s__law_with) .none kV__law_with dc__law_with pm__law_with an__law_with cd__law_with ct__law_with), sl__law_with⟩)
    (x3__law_with : PySem.W.codeIn K cd__law_with "_law_with" = true) (x4__law_with : PySem.W.keepIn K (.ref f__law_with) = true)
    {f__law_way : Addr} {od__law_way an__law_way : Option Addr} {sl__law_way : Array (Option Value)} {oc__law_way kV__law_way dc__law_way pm__law_way cd__law_way ct__law_way : Value}
    (x1__law_way : PySem.W.nsIn K mainGlobals "_law_way" = some (some (.ref f__law_way)))
    (x2__law_way : K.lookup f__law_way = some ⟨oc__law_way, od__law_way, .func (PySem.W.fnOf "_law_way" "_law_way" (defArgs s__law_way) (defBody s__law_way) (defScope s__law_way) .none kV__law_way dc__law_way pm__law_way an__law_way cd__law_way ct__law_way), sl__law_way⟩)
    (x3__law_way : PySem.W.codeIn K cd__law_way "_law_way" = true) (x4__law_way : PySem.W.keepIn K (.ref f__law_way) = true)
    {f__law_tried : Addr} {od__law_tried an__law_tried : Option Addr} {sl__law_tried : Array (Option Value)} {oc__law_tried kV__law_tried dc__law_tried pm__law_tried cd__law_tried ct__law_tried : Value}
    (x1__law_tried : PySem.W.nsIn K mainGlobals "_law_tried" = some (some (.ref f__law_tried)))
    (x2__law_tried : K.lookup f__law_tried = some ⟨oc__law_tried, od__law_tried, .func (PySem.W.fnOf "_law_tried" "_law_tried" (defArgs s__law_tried) (defBody s__law_tried) (defScope s__law_tried) .none kV__law_tried dc__law_tried pm__law_tried an__law_tried cd__law_tried ct__law_tried), sl__law_tried⟩)
    (x3__law_tried : PySem.W.codeIn K cd__law_tried "_law_tried" = true) (x4__law_tried : PySem.W.keepIn K (.ref f__law_tried) = true)
    {f_law : Addr} {od_law an_law : Option Addr} {sl_law : Array (Option Value)} {oc_law kV_law dc_law pm_law cd_law ct_law : Value}
    (x1_law : PySem.W.nsIn K mainGlobals "law" = some (some (.ref f_law)))
    (x2_law : K.lookup f_law = some ⟨oc_law, od_law, .func (PySem.W.fnOf "law" "law" (defArgs s_law) (defBody s_law) (defScope s_law) .none kV_law dc_law pm_law an_law (.ref c0) ct_law), sl_law⟩)
    (x3_law : PySem.W.codeIn K (.ref c0) "law" = true) (x4_law : PySem.W.keepIn K (.ref f_law) = true)
    {t_CLOCK : Tok} (x1_CLOCK : PySem.W.nsIn K mainGlobals "CLOCK" = some (some (.str "clock" t_CLOCK)))
    {t_LETTERS : Tok} (x1_LETTERS : PySem.W.nsIn K mainGlobals "LETTERS" = some (some (.str "abcdefghijklmnopqrstuvwxyz" t_LETTERS)))
    {t_LONGEST_NAME : Tok} (x1_LONGEST_NAME : PySem.W.nsIn K mainGlobals "LONGEST_NAME" = some (some (.int 8 t_LONGEST_NAME)))
    (x1_len : PySem.W.nsIn K mainGlobals "len" = some none)
    (x1_abs : PySem.W.nsIn K mainGlobals "abs" = some none)
    (x1_int : PySem.W.nsIn K mainGlobals "int" = some none)
    (x1_list : PySem.W.nsIn K mainGlobals "list" = some none)
    (x1_tuple : PySem.W.nsIn K mainGlobals "tuple" = some none)
    (x1_bool : PySem.W.nsIn K mainGlobals "bool" = some none)
    (x1_str : PySem.W.nsIn K mainGlobals "str" = some none)
    (x1_dict : PySem.W.nsIn K mainGlobals "dict" = some none)
    (x1_isinstance : PySem.W.nsIn K mainGlobals "isinstance" = some none)
    (x1_all : PySem.W.nsIn K mainGlobals "all" = some none)
    (x1_any : PySem.W.nsIn K mainGlobals "any" = some none)
    (x1_zip : PySem.W.nsIn K mainGlobals "zip" = some none)
    (x1_enumerate : PySem.W.nsIn K mainGlobals "enumerate" = some none)
    (x1_range : PySem.W.nsIn K mainGlobals "range" = some none)
    (x1_sorted : PySem.W.nsIn K mainGlobals "sorted" = some none)
    (x1_iter : PySem.W.nsIn K mainGlobals "iter" = some none)
    (u1 : PySem.W.findIn K (.ref c_Hanging) "__len__" = some none) (u2 : PySem.W.findIn K (.ref c_Hanging) "__length_hint__" = some none)
    (u3 : PySem.W.notFirst K c_Hanging (.type "NoneType") = true) (u4 : PySem.W.notFirst K c_Hanging (.type "dict") = true) (u5 : PySem.W.notFirst K c_Hanging (.ref c_Hanging) = true)
    (u6 : PySem.W.findIn K (.ref c_Hanging) "__class__" = some (some (.builtin "object.__class__"))) (u7 : PySem.W.specialIn K (.builtin "object.__class__") "__get__" = some (some (.builtin "getset_descriptor.__get__"))) (u8 : PySem.W.takesIn K (.builtin "object.__class__") = some true)
    (u9 : PySem.W.kitOne K (.ref c_Hanging) (.ref c_Hanging) = some true) (u10 : PySem.W.kitOne K (.type "NoneType") (.ref c_Hanging) = some false) (u11 : PySem.W.kitOne K (.type "dict") (.ref c_Hanging) = some false)
    (u12 : PySem.W.findIn K (.ref c_Hanging) "__ne__" = some (some (.builtin "object.__ne__"))) (u13 : PySem.W.mroIn K c_Hanging (.type "object") = some true) (u14 : PySem.W.subIn K (.ref c_Hanging) (.type "NoneType") = some false) (u15 : PySem.W.subIn K (.ref c_Hanging) (.type "dict") = some false)
    (u16 : PySem.W.typeIn K (.ref f_NoDish___init__) = some (.type "function")) (u17 : PySem.W.exmOne K (.ref c_NoDish) (.ref c_NoDish) = some true)
    : ∃ fd : FuncData, (∀ (s : Shared) (v : Value), BindsTo s fd ⟨[v], []⟩ [("_law_script", v)]) ∧ ∀ base : Heap, K.In base → base.Ns mainGlobals mg → LamX.TabB base mg c0 Pt → FnOk l.prog w K mg base CX0 11 fa fd ["_law_script"] (spLawT K Pt) := by
  have e := hfa.symm.trans (PySem.W.mg_of X G x1_law)
  cases e
  have F_is_name := fun_mk (st := s_is_name) x2_is_name x3_is_name x4_is_name
  have F_is_dish := fun_mk (st := s_is_dish) x2_is_dish x3_is_dish x4_is_dish
  have F_alike := fun_mk (st := s_alike) x2_alike x3_alike x4_alike
  have F_copied := fun_mk (st := s_copied) x2_copied x3_copied x4_copied
  have F_NoDish___init__ := fun_mk (st := s_NoDish___init__) x2_NoDish___init__ x3_NoDish___init__ x4_NoDish___init__
  have F_check_dish := fun_mk (st := s_check_dish) x2_check_dish x3_check_dish x4_check_dish
  have F_way_up := fun_mk (st := s_way_up) x2_way_up x3_way_up x4_way_up
  have F_Hanging___init__ := fun_mk (st := s_Hanging___init__) x2_Hanging___init__ x3_Hanging___init__ x4_Hanging___init__
  have F_Hanging_rows := fun_mk (st := s_Hanging_rows) x2_Hanging_rows x3_Hanging_rows x4_Hanging_rows
  have F_Hanging_dishes := fun_mk (st := s_Hanging_dishes) x2_Hanging_dishes x3_Hanging_dishes x4_Hanging_dishes
  have F_Hanging_way := fun_mk (st := s_Hanging_way) x2_Hanging_way x3_Hanging_way x4_Hanging_way
  have F_Hanging_looks := fun_mk (st := s_Hanging_looks) x2_Hanging_looks x3_Hanging_looks x4_Hanging_looks
  have F_Hanging___iter__ := fun_mk (st := s_Hanging___iter__) x2_Hanging___iter__ x3_Hanging___iter__ x4_Hanging___iter__
  have F_Hanging___eq__ := fun_mk (st := s_Hanging___eq__) x2_Hanging___eq__ x3_Hanging___eq__ x4_Hanging___eq__
  have F_check_rows := fun_mk (st := s_check_rows) x2_check_rows x3_check_rows x4_check_rows
  have F_is_hook := fun_mk (st := s_is_hook) x2_is_hook x3_is_hook x4_is_hook
  have F_check_rounds := fun_mk (st := s_check_rounds) x2_check_rounds x3_check_rounds x4_check_rounds
  have F_round_from := fun_mk (st := s_round_from) x2_round_from x3_round_from x4_round_from
  have F__law_fresh := fun_mk (st := s__law_fresh) x2__law_fresh x3__law_fresh x4__law_fresh
  have F__law_take := fun_mk (st := s__law_take) x2__law_take x3__law_take x4__law_take
  have F__law_one := fun_mk (st := s__law_one) x2__law_one x3__law_one x4__law_one
  have F__law_mix := fun_mk (st := s__law_mix) x2__law_mix x3__law_mix x4__law_mix
  have F__law_same := fun_mk (st := s__law_same) x2__law_same x3__law_same x4__law_same
  have F__law_same_dict := fun_mk (st := s__law_same_dict) x2__law_same_dict x3__law_same_dict x4__law_same_dict
  have F__law_names := fun_mk (st := s__law_names) x2__law_names x3__law_names x4__law_names
  have F__law_rising := fun_mk (st := s__law_rising) x2__law_rising x3__law_rising x4__law_rising
  have F__law_hung := fun_mk (st := s__law_hung) x2__law_hung x3__law_hung x4__law_hung
  have F__law_with := fun_mk (st := s__law_with) x2__law_with x3__law_with x4__law_with
  have F__law_way := fun_mk (st := s__law_way) x2__law_way x3__law_way x4__law_way
  have F__law_tried := fun_mk (st := s__law_tried) x2__law_tried x3__law_tried x4__law_tried
  have F_law := fun_mk (st := s_law) x2_law x3_law x4_law
  have T : Txt K mg ({ a_is_name := f_is_name, d_is_name := (PySem.W.fnOf "is_name" "is_name" (defArgs s_is_name) (defBody s_is_name) (defScope s_is_name) .none kV_is_name dc_is_name pm_is_name an_is_name cd_is_name ct_is_name), a_is_dish := f_is_dish, d_is_dish := (PySem.W.fnOf "is_dish" "is_dish" (defArgs s_is_dish) (defBody s_is_dish) (defScope s_is_dish) .none kV_is_dish dc_is_dish pm_is_dish an_is_dish cd_is_dish ct_is_dish), a_alike := f_alike, d_alike := (PySem.W.fnOf "alike" "alike" (defArgs s_alike) (defBody s_alike) (defScope s_alike) .none kV_alike dc_alike pm_alike an_alike cd_alike ct_alike), a_copied := f_copied, d_copied := (PySem.W.fnOf "copied" "copied" (defArgs s_copied) (defBody s_copied) (defScope s_copied) .none kV_copied dc_copied pm_copied an_copied cd_copied ct_copied), a_NoDish___init__ := f_NoDish___init__, d_NoDish___init__ := (PySem.W.fnOf "__init__" "NoDish.__init__" (defArgs s_NoDish___init__) (defBody s_NoDish___init__) (defScope s_NoDish___init__) .none kV_NoDish___init__ dc_NoDish___init__ pm_NoDish___init__ an_NoDish___init__ cd_NoDish___init__ ct_NoDish___init__), a_check_dish := f_check_dish, d_check_dish := (PySem.W.fnOf "check_dish" "check_dish" (defArgs s_check_dish) (defBody s_check_dish) (defScope s_check_dish) .none kV_check_dish dc_check_dish pm_check_dish an_check_dish cd_check_dish ct_check_dish), a_way_up := f_way_up, d_way_up := (PySem.W.fnOf "way_up" "way_up" (defArgs s_way_up) (defBody s_way_up) (defScope s_way_up) .none kV_way_up dc_way_up pm_way_up an_way_up cd_way_up ct_way_up), a_Hanging___init__ := f_Hanging___init__, d_Hanging___init__ := (PySem.W.fnOf "__init__" "Hanging.__init__" (defArgs s_Hanging___init__) (defBody s_Hanging___init__) (defScope s_Hanging___init__) .none kV_Hanging___init__ dc_Hanging___init__ pm_Hanging___init__ an_Hanging___init__ cd_Hanging___init__ ct_Hanging___init__), a_Hanging_rows := f_Hanging_rows, d_Hanging_rows := (PySem.W.fnOf "rows" "Hanging.rows" (defArgs s_Hanging_rows) (defBody s_Hanging_rows) (defScope s_Hanging_rows) .none kV_Hanging_rows dc_Hanging_rows pm_Hanging_rows an_Hanging_rows cd_Hanging_rows ct_Hanging_rows), a_Hanging_dishes := f_Hanging_dishes, d_Hanging_dishes := (PySem.W.fnOf "dishes" "Hanging.dishes" (defArgs s_Hanging_dishes) (defBody s_Hanging_dishes) (defScope s_Hanging_dishes) .none kV_Hanging_dishes dc_Hanging_dishes pm_Hanging_dishes an_Hanging_dishes cd_Hanging_dishes ct_Hanging_dishes), a_Hanging_way := f_Hanging_way, d_Hanging_way := (PySem.W.fnOf "way" "Hanging.way" (defArgs s_Hanging_way) (defBody s_Hanging_way) (defScope s_Hanging_way) .none kV_Hanging_way dc_Hanging_way pm_Hanging_way an_Hanging_way cd_Hanging_way ct_Hanging_way), a_Hanging_looks := f_Hanging_looks, d_Hanging_looks := (PySem.W.fnOf "looks" "Hanging.looks" (defArgs s_Hanging_looks) (defBody s_Hanging_looks) (defScope s_Hanging_looks) .none kV_Hanging_looks dc_Hanging_looks pm_Hanging_looks an_Hanging_looks cd_Hanging_looks ct_Hanging_looks), a_Hanging___iter__ := f_Hanging___iter__, d_Hanging___iter__ := (PySem.W.fnOf "__iter__" "Hanging.__iter__" (defArgs s_Hanging___iter__) (defBody s_Hanging___iter__) (defScope s_Hanging___iter__) .none kV_Hanging___iter__ dc_Hanging___iter__ pm_Hanging___iter__ an_Hanging___iter__ cd_Hanging___iter__ ct_Hanging___iter__), a_Hanging___eq__ := f_Hanging___eq__, d_Hanging___eq__ := (PySem.W.fnOf "__eq__" "Hanging.__eq__" (defArgs s_Hanging___eq__) (defBody s_Hanging___eq__) (defScope s_Hanging___eq__) .none kV_Hanging___eq__ dc_Hanging___eq__ pm_Hanging___eq__ an_Hanging___eq__ cd_Hanging___eq__ ct_Hanging___eq__), a_check_rows := f_check_rows, d_check_rows := (PySem.W.fnOf "check_rows" "check_rows" (defArgs s_check_rows) (defBody s_check_rows) (defScope s_check_rows) .none kV_check_rows dc_check_rows pm_check_rows an_check_rows cd_check_rows ct_check_rows), a_is_hook := f_is_hook, d_is_hook := (PySem.W.fnOf "is_hook" "is_hook" (defArgs s_is_hook) (defBody s_is_hook) (defScope s_is_hook) .none kV_is_hook dc_is_hook pm_is_hook an_is_hook cd_is_hook ct_is_hook), a_check_rounds := f_check_rounds, d_check_rounds := (PySem.W.fnOf "check_rounds" "check_rounds" (defArgs s_check_rounds) (defBody s_check_rounds) (defScope s_check_rounds) .none kV_check_rounds dc_check_rounds pm_check_rounds an_check_rounds cd_check_rounds ct_check_rounds), a_round_from := f_round_from, d_round_from := (PySem.W.fnOf "round_from" "round_from" (defArgs s_round_from) (defBody s_round_from) (defScope s_round_from) .none kV_round_from dc_round_from pm_round_from an_round_from cd_round_from ct_round_from), a__law_fresh := f__law_fresh, d__law_fresh := (PySem.W.fnOf "_law_fresh" "_law_fresh" (defArgs s__law_fresh) (defBody s__law_fresh) (defScope s__law_fresh) .none kV__law_fresh dc__law_fresh pm__law_fresh an__law_fresh cd__law_fresh ct__law_fresh), a__law_take := f__law_take, d__law_take := (PySem.W.fnOf "_law_take" "_law_take" (defArgs s__law_take) (defBody s__law_take) (defScope s__law_take) .none kV__law_take dc__law_take pm__law_take an__law_take cd__law_take ct__law_take), a__law_one := f__law_one, d__law_one := (PySem.W.fnOf "_law_one" "_law_one" (defArgs s__law_one) (defBody s__law_one) (defScope s__law_one) .none kV__law_one dc__law_one pm__law_one an__law_one cd__law_one ct__law_one), a__law_mix := f__law_mix, d__law_mix := (PySem.W.fnOf "_law_mix" "_law_mix" (defArgs s__law_mix) (defBody s__law_mix) (defScope s__law_mix) .none kV__law_mix dc__law_mix pm__law_mix an__law_mix cd__law_mix ct__law_mix), a__law_same := f__law_same, d__law_same := (PySem.W.fnOf "_law_same" "_law_same" (defArgs s__law_same) (defBody s__law_same) (defScope s__law_same) .none kV__law_same dc__law_same pm__law_same an__law_same cd__law_same ct__law_same), a__law_same_dict := f__law_same_dict, d__law_same_dict := (PySem.W.fnOf "_law_same_dict" "_law_same_dict" (defArgs s__law_same_dict) (defBody s__law_same_dict) (defScope s__law_same_dict) .none kV__law_same_dict dc__law_same_dict pm__law_same_dict an__law_same_dict cd__law_same_dict ct__law_same_dict), a__law_names := f__law_names, d__law_names := (PySem.W.fnOf "_law_names" "_law_names" (defArgs s__law_names) (defBody s__law_names) (defScope s__law_names) .none kV__law_names dc__law_names pm__law_names an__law_names cd__law_names ct__law_names), a__law_rising := f__law_rising, d__law_rising := (PySem.W.fnOf "_law_rising" "_law_rising" (defArgs s__law_rising) (defBody s__law_rising) (defScope s__law_rising) .none kV__law_rising dc__law_rising pm__law_rising an__law_rising cd__law_rising ct__law_rising), a__law_hung := f__law_hung, d__law_hung := (PySem.W.fnOf "_law_hung" "_law_hung" (defArgs s__law_hung) (defBody s__law_hung) (defScope s__law_hung) .none kV__law_hung dc__law_hung pm__law_hung an__law_hung cd__law_hung ct__law_hung), a__law_with := f__law_with, d__law_with := (PySem.W.fnOf "_law_with" "_law_with" (defArgs s__law_with) (defBody s__law_with) (defScope s__law_with) .none kV__law_with dc__law_with pm__law_with an__law_with cd__law_with ct__law_with), a__law_way := f__law_way, d__law_way := (PySem.W.fnOf "_law_way" "_law_way" (defArgs s__law_way) (defBody s__law_way) (defScope s__law_way) .none kV__law_way dc__law_way pm__law_way an__law_way cd__law_way ct__law_way), a__law_tried := f__law_tried, d__law_tried := (PySem.W.fnOf "_law_tried" "_law_tried" (defArgs s__law_tried) (defBody s__law_tried) (defScope s__law_tried) .none kV__law_tried dc__law_tried pm__law_tried an__law_tried cd__law_tried ct__law_tried), a_law := fa, d_law := (PySem.W.fnOf "law" "law" (defArgs s_law) (defBody s_law) (defScope s_law) .none kV_law dc_law pm_law an_law (.ref c0) ct_law), a_Hanging := c_Hanging, a_NoDish := c_NoDish } : Ad) := {
    f_is_name := F_is_name
    g_is_name := PySem.W.mg_of X G x1_is_name
    b_is_name := F_is_name.binds fun _ _ _ _ _ _ us hl => match us, hl with | [_], _ => rfl
    f_is_dish := F_is_dish
    g_is_dish := PySem.W.mg_of X G x1_is_dish
    b_is_dish := F_is_dish.binds fun _ _ _ _ _ _ us hl => match us, hl with | [_, _], _ => rfl
    f_alike := F_alike
    g_alike := PySem.W.mg_of X G x1_alike
    b_alike := F_alike.binds fun _ _ _ _ _ _ us hl => match us, hl with | [_, _], _ => rfl
    f_copied := F_copied
    g_copied := PySem.W.mg_of X G x1_copied
    b_copied := F_copied.binds fun _ _ _ _ _ _ us hl => match us, hl with | [_], _ => rfl
    f_NoDish___init__ := F_NoDish___init__
    b_NoDish___init__ := F_NoDish___init__.binds fun _ _ _ _ _ _ us hl => match us, hl with | [_, _], _ => rfl
    f_check_dish := F_check_dish
    g_check_dish := PySem.W.mg_of X G x1_check_dish
    b_check_dish := F_check_dish.binds fun _ _ _ _ _ _ us hl => match us, hl with | [_, _], _ => rfl
    f_way_up := F_way_up
    g_way_up := PySem.W.mg_of X G x1_way_up
    b_way_up := F_way_up.binds fun _ _ _ _ _ _ us hl => match us, hl with | [_, _], _ => rfl
    f_Hanging___init__ := F_Hanging___init__
    b_Hanging___init__ := F_Hanging___init__.binds fun _ _ _ _ _ _ us hl => match us, hl with | [_, _], _ => rfl
    f_Hanging_rows := F_Hanging_rows
    b_Hanging_rows := F_Hanging_rows.binds fun _ _ _ _ _ _ us hl => match us, hl with | [_], _ => rfl
    f_Hanging_dishes := F_Hanging_dishes
    b_Hanging_dishes := F_Hanging_dishes.binds fun _ _ _ _ _ _ us hl => match us, hl with | [_], _ => rfl
    f_Hanging_way := F_Hanging_way
    b_Hanging_way := F_Hanging_way.binds fun _ _ _ _ _ _ us hl => match us, hl with | [_, _], _ => rfl
    f_Hanging_looks := F_Hanging_looks
    b_Hanging_looks := F_Hanging_looks.binds fun _ _ _ _ _ _ us hl => match us, hl with | [_], _ => rfl
    f_Hanging___iter__ := F_Hanging___iter__
    b_Hanging___iter__ := F_Hanging___iter__.binds fun _ _ _ _ _ _ us hl => match us, hl with | [_], _ => rfl
    f_Hanging___eq__ := F_Hanging___eq__
    b_Hanging___eq__ := F_Hanging___eq__.binds fun _ _ _ _ _ _ us hl => match us, hl with | [_, _], _ => rfl
    f_check_rows := F_check_rows
    g_check_rows := PySem.W.mg_of X G x1_check_rows
    b_check_rows := F_check_rows.binds fun _ _ _ _ _ _ us hl => match us, hl with | [_], _ => rfl
    f_is_hook := F_is_hook
    g_is_hook := PySem.W.mg_of X G x1_is_hook
    b_is_hook := F_is_hook.binds fun _ _ _ _ _ _ us hl => match us, hl with | [_, _], _ => rfl
    f_check_rounds := F_check_rounds
    g_check_rounds := PySem.W.mg_of X G x1_check_rounds
    b_check_rounds := F_check_rounds.binds fun _ _ _ _ _ _ us hl => match us, hl with | [_], _ => rfl
    f_round_from := F_round_from
    g_round_from := PySem.W.mg_of X G x1_round_from
    b_round_from := F_round_from.binds fun _ _ _ _ _ _ us hl => match us, hl with | [_, _], _ => rfl
    f__law_fresh := F__law_fresh
    g__law_fresh := PySem.W.mg_of X G x1__law_fresh
    b__law_fresh := F__law_fresh.binds fun _ _ _ _ _ _ us hl => match us, hl with | [_], _ => rfl
    f__law_take := F__law_take
    g__law_take := PySem.W.mg_of X G x1__law_take
    b__law_take := F__law_take.binds fun _ _ _ _ _ _ us hl => match us, hl with | [_, _], _ => rfl
    f__law_one := F__law_one
    g__law_one := PySem.W.mg_of X G x1__law_one
    b__law_one := F__law_one.binds fun _ _ _ _ _ _ us hl => match us, hl with | [_, _], _ => rfl
    f__law_mix := F__law_mix
    g__law_mix := PySem.W.mg_of X G x1__law_mix
    b__law_mix := F__law_mix.binds fun _ _ _ _ _ _ us hl => match us, hl with | [_, _], _ => rfl
    f__law_same := F__law_same
    g__law_same := PySem.W.mg_of X G x1__law_same
    b__law_same := F__law_same.binds fun _ _ _ _ _ _ us hl => match us, hl with | [_, _], _ => rfl
    f__law_same_dict := F__law_same_dict
    g__law_same_dict := PySem.W.mg_of X G x1__law_same_dict
    b__law_same_dict := F__law_same_dict.binds fun _ _ _ _ _ _ us hl => match us, hl with | [_, _], _ => rfl
    f__law_names := F__law_names
    g__law_names := PySem.W.mg_of X G x1__law_names
    b__law_names := F__law_names.binds fun _ _ _ _ _ _ us hl => match us, hl with | [_, _], _ => rfl
    f__law_rising := F__law_rising
    g__law_rising := PySem.W.mg_of X G x1__law_rising
    b__law_rising := F__law_rising.binds fun _ _ _ _ _ _ us hl => match us, hl with | [_], _ => rfl
    f__law_hung := F__law_hung
    g__law_hung := PySem.W.mg_of X G x1__law_hung
    b__law_hung := F__law_hung.binds fun _ _ _ _ _ _ us hl => match us, hl with | [_, _], _ => rfl
    f__law_with := F__law_with
    g__law_with := PySem.W.mg_of X G x1__law_with
    b__law_with := F__law_with.binds fun _ _ _ _ _ _ us hl => match us, hl with | [_, _, _], _ => rfl
    f__law_way := F__law_way
    g__law_way := PySem.W.mg_of X G x1__law_way
    b__law_way := F__law_way.binds fun _ _ _ _ _ _ us hl => match us, hl with | [_, _], _ => rfl
    f__law_tried := F__law_tried
    g__law_tried := PySem.W.mg_of X G x1__law_tried
    b__law_tried := F__law_tried.binds fun _ _ _ _ _ _ us hl => match us, hl with | [_], _ => rfl
    f_law := F_law
    g_law := PySem.W.mg_of X G x1_law
    b_law := F_law.binds fun _ _ _ _ _ _ us hl => match us, hl with | [_], _ => rfl
    g_CLOCK := ⟨_, PySem.W.mg_of X G x1_CLOCK⟩
    g_LETTERS := ⟨_, PySem.W.mg_of X G x1_LETTERS⟩
    g_LONGEST_NAME := ⟨_, PySem.W.mg_of X G x1_LONGEST_NAME⟩
    len := PySem.W.mg_none_of X G x1_len
    abs := PySem.W.mg_none_of X G x1_abs
    int := PySem.W.mg_none_of X G x1_int
    list := PySem.W.mg_none_of X G x1_list
    tuple := PySem.W.mg_none_of X G x1_tuple
    bool := PySem.W.mg_none_of X G x1_bool
    str := PySem.W.mg_none_of X G x1_str
    dict := PySem.W.mg_none_of X G x1_dict
    isinstance := PySem.W.mg_none_of X G x1_isinstance
    all := PySem.W.mg_none_of X G x1_all
    any := PySem.W.mg_none_of X G x1_any
    zip := PySem.W.mg_none_of X G x1_zip
    enumerate := PySem.W.mg_none_of X G x1_enumerate
    range := PySem.W.mg_none_of X G x1_range
    sorted := PySem.W.mg_none_of X G x1_sorted
    iter := PySem.W.mg_none_of X G x1_iter
    g_Hanging := PySem.W.mg_of X G y1_Hanging
    cl := ⟨y2_Hanging, y3_Hanging, y4_Hanging, y5_Hanging⟩
    nH := z_Hanging_hooks
    mkH := ⟨y6_Hanging, x1_Hanging___init__, x5_Hanging___init__, y7_Hanging⟩
    m_rows := ⟨x1_Hanging_rows, x5_Hanging_rows, x4_Hanging_rows⟩
    m_dishes := ⟨x1_Hanging_dishes, x5_Hanging_dishes, x4_Hanging_dishes⟩
    m_way := ⟨x1_Hanging_way, x5_Hanging_way, x4_Hanging_way⟩
    m_looks := ⟨x1_Hanging_looks, x5_Hanging_looks, x4_Hanging_looks⟩
    m_iter := ⟨x1_Hanging___iter__, x5_Hanging___iter__⟩
    nLen := u1
    nHint := u2
    nfN := u3
    nfD := u4
    nfH := u5
    aC := u6
    aG := u7
    aT := u8
    kHH := u9
    kHN := u10
    kHD := u11
    m_eq := ⟨x1_Hanging___eq__, x5_Hanging___eq__, x4_Hanging___eq__⟩
    nE := u12
    mO := u13
    sN := u14
    sD := u15
    xN := ⟨⟨_, _, _, _, _, _, _, _, _, _, _, _, _, _, _, oe_NoDish, re_NoDish⟩, sa_NoDish, sx_NoDish, ty_NoDish, ke_NoDish⟩
    nN := z_NoDish_name
    iN := x1_NoDish___init__
    tN := u16
    g_NoDish := PySem.W.mg_of X G y1_NoDish
    xfN := ⟨ga_NoDish, gg_NoDish, sx_NoDish, hd_NoDish⟩
    eN := u17 }
  exact ⟨_, fun s v => .of_eq rfl, fun base _ _ TB => ok_lawT T x2_law x3_law TB⟩

theorem walkT {l : PySem.W.OpenLaw} {q : Program} {loose : List Str} {XP : (Str → Option Value) → Heap → Prop} {YP : World → Heap → Prop} {d : DefRec} {K : Params → PySem.W.Frag} {c0 Pt : Addr} (hn : l.most = some 63) (hdf : d.params.defaults = [])
    (hY : ∀ (w : World) (h : Heap), YP w h → (K w.params).In h) (hd : (PyProof.Rows.recsOf q).find? (fun e => e.name == ("law" : Str)) = some d) (ht : ∀ w : World, PySem.W.tabIn (K w.params) ("law" : Str) = some (c0, Pt)) (nP : ∀ w : World, (K w.params).lookup Pt = none)
    (F : ∀ (w : World) (mg : Str → Option Value) (fa : Addr) (h : Heap), (K w.params).In h → h.Ns mainGlobals mg → mg d.name = some (.ref fa) →
      ∃ fd : FuncData, (∀ (s : Shared) (u : Value), BindsTo s fd ⟨[u], []⟩ [("_law_script", u)]) ∧ ∀ base : Heap, (K w.params).In base → base.Ns mainGlobals mg → LamX.TabB base mg c0 Pt → FnOk l.prog w (K w.params) mg base CX0 11 fa fd ["_law_script"] (spLawT (K w.params) Pt)) :
    PySem.W.WalkO q loose XP YP l.row.toRowW d [] (fun f vs => PySem.call f vs) := by
  refine Att.attach_callB hn hdf fun w s0 s1 mg mb fa o pm cd doc a vs ns G Y ho hdd hcd hmg hobj hints hlen hbits hg => ?_
  have KX := hY w _ Y
  obtain ⟨hC, hP⟩ := PySem.W.tab_of G.T KX hd (ht w)
  obtain ⟨fd, hb, hF⟩ := F w mg fa _ KX G.T.g hmg
  refine LamX.law_callTs (cs := [(c0, Pt)]) (k := 11) (CX := CX0) (sp := spLawT (K w.params) Pt) KX G.T.g G.T.b G.T.builtins G.T.nolimit hg ?_ ?_ ?_ G.T.bmain hobj hints (Nat.le_trans hlen (by decide)) ⟨rfl, by decide, by decide⟩ (fun base h1 h2 h3 => hF base h1 h2 (h3 _ (List.mem_singleton.mpr rfl))) hb (fun H hH hS => ?_) fun H e s' z => z
  · intro p hp
    rw [List.mem_singleton.mp hp]; exact hP
  · intro p hp
    rw [List.mem_singleton.mp hp]; exact nP w
  · intro p hp
    rw [List.mem_singleton.mp hp]; exact hC
  · refine ⟨a, ns, rfl, hS, hlen, fun p hp => ?_, fun _ => rfl⟩
    rw [List.mem_singleton.mp hp]
    exact LamX.TabS.nil (hH _ (List.mem_singleton.mpr rfl))
end
end K5
open PySem PySem.W PyProof.Rows in
set_option maxRecDepth 100000 in
set_option maxHeartbeats 0 in
theorem PySem.Challenge.cw_cookcalls_k06_hangings_told_holds : PySem.Challenge.rw_cookcalls_k06_hangings_told.Holds := by
  w_on; o_law; k_head; (case hw => w_witness2)
  k_fill
  refine K5.walkT (l := PySem.Challenge.rw_cookcalls_k06_hangings_told) (c0 := 287) (Pt := 285) rfl rfl (fun w h Y => PySem.W.km_in_of Y) rfl (fun w => by kernel_rfl) (fun w => by kernel_rfl) ?F
  case F =>
    intro w mg fa h KX G hmg
    refine' K5.all_mk KX G hmg ?y1_Hanging ?y2_Hanging ?y3_Hanging ?y4_Hanging ?y5_Hanging ?y6_Hanging ?y7_Hanging ?z_Hanging_hooks ?y1_NoDish ?oe_NoDish ?re_NoDish ?sa_NoDish ?sx_NoDish ?ty_NoDish ?ke_NoDish ?ga_NoDish ?gg_NoDish ?hd_NoDish ?z_NoDish_name ?x1_is_name ?x2_is_name ?x3_is_name ?x4_is_name ?x1_is_dish ?x2_is_dish ?x3_is_dish ?x4_is_dish ?x1_alike ?x2_alike ?x3_alike ?x4_alike ?x1_copied ?x2_copied ?x3_copied ?x4_copied ?x1_NoDish___init__ ?x5_NoDish___init__ ?x2_NoDish___init__ ?x3_NoDish___init__ ?x4_NoDish___init__ ?x1_check_dish ?x2_check_dish ?x3_check_dish ?x4_check_dish ?x1_way_up ?x2_way_up ?x3_way_up ?x4_way_up ?x1_Hanging___init__ ?x5_Hanging___init__ ?x2_Hanging___init__ ?x3_Hanging___init__ ?x4_Hanging___init__ ?x1_Hanging_rows ?x5_Hanging_rows ?x2_Hanging_rows ?x3_Hanging_rows ?x4_Hanging_rows ?x1_Hanging_dishes ?x5_Hanging_dishes ?x2_Hanging_dishes ?x3_Hanging_dishes ?x4_Hanging_dishes ?x1_Hanging_way ?x5_Hanging_way ?x2_Hanging_way ?x3_Hanging_way ?x4_Hanging_way ?x1_Hanging_looks ?x5_Hanging_looks ?x2_Hanging_looks ?x3_Hanging_looks ?x4_Hanging_looks ?x1_Hanging___iter__ ?x5_Hanging___iter__ ?x2_Hanging___iter__ ?x3_Hanging___iter__ ?x4_Hanging___iter__ ?x1_Hanging___eq__ ?x5_Hanging___eq__ ?x2_Hanging___eq__ ?x3_Hanging___eq__ ?x4_Hanging___eq__ ?x1_check_rows ?x2_check_rows ?x3_check_rows ?x4_check_rows ?x1_is_hook ?x2_is_hook ?x3_is_hook ?x4_is_hook ?x1_check_rounds ?x2_check_rounds ?x3_check_rounds ?x4_check_rounds ?x1_round_from ?x2_round_from ?x3_round_from ?x4_round_from ?x1__law_fresh ?x2__law_fresh ?x3__law_fresh ?x4__law_fresh ?x1__law_take ?x2__law_take ?x3__law_take ?x4__law_take ?x1__law_one ?x2__law_one ?x3__law_one ?x4__law_one ?x1__law_mix ?x2__law_mix ?x3__law_mix ?x4__law_mix ?x1__law_same ?x2__law_same ?x3__law_same ?x4__law_same ?x1__law_same_dict ?x2__law_same_dict ?x3__law_same_dict ?x4__law_same_dict ?x1__law_names ?x2__law_names ?x3__law_names ?x4__law_names ?x1__law_rising ?x2__law_rising ?x3__law_rising ?x4__law_rising ?x1__law_hung ?x2__law_hung ?x3__law_hung ?x4__law_hung ?x1__law_with ?x2__law_with ?x3__law_with ?x4__law_with ?x1__law_way ?x2__law_way ?x3__law_way ?x4__law_way ?x1__law_tried ?x2__law_tried ?x3__law_tried ?x4__law_tried ?x1_law ?x2_law ?x3_law ?x4_law ?x1_CLOCK ?x1_LETTERS ?x1_LONGEST_NAME ?x1_len ?x1_abs ?x1_int ?x1_list ?x1_tuple ?x1_bool ?x1_str ?x1_dict ?x1_isinstance ?x1_all ?x1_any ?x1_zip ?x1_enumerate ?x1_range ?x1_sorted ?x1_iter ?u1 ?u2 ?u3 ?u4 ?u5 ?u6 ?u7 ?u8 ?u9 ?u10 ?u11 ?u12 ?u13 ?u14 ?u15 ?u16 ?u17
    (case y1_Hanging => first | k_is | kernel_rfl | rfl | decide +kernel)
    (case y2_Hanging => first | k_is | kernel_rfl | rfl | decide +kernel)
    (case y3_Hanging => first | k_is | kernel_rfl | rfl | decide +kernel)
    (case y4_Hanging => first | k_is | kernel_rfl | rfl | decide +kernel)
    (case y5_Hanging => first | k_is | kernel_rfl | rfl | decide +kernel)
    (case y6_Hanging => first | k_is | kernel_rfl | rfl | decide +kernel)
    (case y7_Hanging => first | k_is | kernel_rfl | rfl | decide +kernel)
    (case z_Hanging_hooks => first | k_is | kernel_rfl | rfl | decide +kernel)
    (case y1_NoDish => first | k_is | kernel_rfl | rfl | decide +kernel)
    (case oe_NoDish => first | k_is | kernel_rfl | rfl | decide +kernel)
    (case re_NoDish => rfl)
    (case sa_NoDish => first | k_is | kernel_rfl | rfl | decide +kernel)
    (case sx_NoDish => first | k_is | kernel_rfl | rfl | decide +kernel)
    (case ty_NoDish => first | k_is | kernel_rfl | rfl | decide +kernel)
    (case ke_NoDish => first | k_is | kernel_rfl | rfl | decide +kernel)
    (case ga_NoDish => first | k_is | kernel_rfl | rfl | decide +kernel)
    (case gg_NoDish => first | k_is | kernel_rfl | rfl | decide +kernel)
    (case hd_NoDish => first | k_is | kernel_rfl | rfl | decide +kernel)
    (case z_NoDish_name => first | k_is | kernel_rfl | rfl | decide +kernel)
    (case x1_is_name => first | k_is | kernel_rfl | rfl | decide +kernel)
    (case x2_is_name => first | k_is | kernel_rfl | rfl | decide +kernel)
    (case x3_is_name => first | k_is | kernel_rfl | rfl | decide +kernel)
    (case x4_is_name => first | k_is | kernel_rfl | rfl | decide +kernel)
    (case x1_is_dish => first | k_is | kernel_rfl | rfl | decide +kernel)
    (case x2_is_dish => first | k_is | kernel_rfl | rfl | decide +kernel)
    (case x3_is_dish => first | k_is | kernel_rfl | rfl | decide +kernel)
    (case x4_is_dish => first | k_is | kernel_rfl | rfl | decide +kernel)
    (case x1_alike => first | k_is | kernel_rfl | rfl | decide +kernel)
    (case x2_alike => first | k_is | kernel_rfl | rfl | decide +kernel)
    (case x3_alike => first | k_is | kernel_rfl | rfl | decide +kernel)
    (case x4_alike => first | k_is | kernel_rfl | rfl | decide +kernel)
    (case x1_copied => first | k_is | kernel_rfl | rfl | decide +kernel)
    (case x2_copied => first | k_is | kernel_rfl | rfl | decide +kernel)
    (case x3_copied => first | k_is | kernel_rfl | rfl | decide +kernel)
    (case x4_copied => first | k_is | kernel_rfl | rfl | decide +kernel)
    (case x1_NoDish___init__ => first | k_is | kernel_rfl | rfl | decide +kernel)
    (case x5_NoDish___init__ => first | k_is | kernel_rfl | rfl | decide +kernel)
    (case x2_NoDish___init__ => first | k_is | kernel_rfl | rfl | decide +kernel)
    (case x3_NoDish___init__ => first | k_is | kernel_rfl | rfl | decide +kernel)
    (case x4_NoDish___init__ => first | k_is | kernel_rfl | rfl | decide +kernel)
    (case x1_check_dish => first | k_is | kernel_rfl | rfl | decide +kernel)
    (case x2_check_dish => first | k_is | kernel_rfl | rfl | decide +kernel)
    (case x3_check_dish => first | k_is | kernel_rfl | rfl | decide +kernel)
    (case x4_check_dish => first | k_is | kernel_rfl | rfl | decide +kernel)
    (case x1_way_up => first | k_is | kernel_rfl | rfl | decide +kernel)
    (case x2_way_up => first | k_is | kernel_rfl | rfl | decide +kernel)
    (case x3_way_up => first | k_is | kernel_rfl | rfl | decide +kernel)
    (case x4_way_up => first | k_is | kernel_rfl | rfl | decide +kernel)
    (case x1_Hanging___init__ => first | k_is | kernel_rfl | rfl | decide +kernel)
    (case x5_Hanging___init__ => first | k_is | kernel_rfl | rfl | decide +kernel)
    (case x2_Hanging___init__ => first | k_is | kernel_rfl | rfl | decide +kernel)
    (case x3_Hanging___init__ => first | k_is | kernel_rfl | rfl | decide +kernel)
    (case x4_Hanging___init__ => first | k_is | kernel_rfl | rfl | decide +kernel)
    (case x1_Hanging_rows => first | k_is | kernel_rfl | rfl | decide +kernel)
    (case x5_Hanging_rows => first | k_is | kernel_rfl | rfl | decide +kernel)
    (case x2_Hanging_rows => first | k_is | kernel_rfl | rfl | decide +kernel)
    (case x3_Hanging_rows => first | k_is | kernel_rfl | rfl | decide +kernel)
    (case x4_Hanging_rows => first | k_is | kernel_rfl | rfl | decide +kernel)
    (case x1_Hanging_dishes => first | k_is | kernel_rfl | rfl | decide +kernel)
    (case x5_Hanging_dishes => first | k_is | kernel_rfl | rfl | decide +kernel)
    (case x2_Hanging_dishes => first | k_is | kernel_rfl | rfl | decide +kernel)
    (case x3_Hanging_dishes => first | k_is | kernel_rfl | rfl | decide +kernel)
    (case x4_Hanging_dishes => first | k_is | kernel_rfl | rfl | decide +kernel)
    (case x1_Hanging_way => first | k_is | kernel_rfl | rfl | decide +kernel)
    (case x5_Hanging_way => first | k_is | kernel_rfl | rfl | decide +kernel)
    (case x2_Hanging_way => first | k_is | kernel_rfl | rfl | decide +kernel)
    (case x3_Hanging_way => first | k_is | kernel_rfl | rfl | decide +kernel)
    (case x4_Hanging_way => first | k_is | kernel_rfl | rfl | decide +kernel)
    (case x1_Hanging_looks => first | k_is | kernel_rfl | rfl | decide +kernel)
    (case x5_Hanging_looks => first | k_is | kernel_rfl | rfl | decide +kernel)
    (case x2_Hanging_looks => first | k_is | kernel_rfl | rfl | decide +kernel)
    (case x3_Hanging_looks => first | k_is | kernel_rfl | rfl | decide +kernel)
    (case x4_Hanging_looks => first | k_is | kernel_rfl | rfl | decide +kernel)
    (case x1_Hanging___iter__ => first | k_is | kernel_rfl | rfl | decide +kernel)
    (case x5_Hanging___iter__ => first | k_is | kernel_rfl | rfl | decide +kernel)
    (case x2_Hanging___iter__ => first | k_is | kernel_rfl | rfl | decide +kernel)
    (case x3_Hanging___iter__ => first | k_is | kernel_rfl | rfl | decide +kernel)
    (case x4_Hanging___iter__ => first | k_is | kernel_rfl | rfl | decide +kernel)
    (case x1_Hanging___eq__ => first | k_is | kernel_rfl | rfl | decide +kernel)
    (case x5_Hanging___eq__ => first | k_is | kernel_rfl | rfl | decide +kernel)
    (case x2_Hanging___eq__ => first | k_is | kernel_rfl | rfl | decide +kernel)
    (case x3_Hanging___eq__ => first | k_is | kernel_rfl | rfl | decide +kernel)
    (case x4_Hanging___eq__ => first | k_is | kernel_rfl | rfl | decide +kernel)
    (case x1_check_rows => first | k_is | kernel_rfl | rfl | decide +kernel)
    (case x2_check_rows => first | k_is | kernel_rfl | rfl | decide +kernel)
    (case x3_check_rows => first | k_is | kernel_rfl | rfl | decide +kernel)
    (case x4_check_rows => first | k_is | kernel_rfl | rfl | decide +kernel)
    (case x1_is_hook => first | k_is | kernel_rfl | rfl | decide +kernel)
    (case x2_is_hook => first | k_is | kernel_rfl | rfl | decide +kernel)
    (case x3_is_hook => first | k_is | kernel_rfl | rfl | decide +kernel)
    (case x4_is_hook => first | k_is | kernel_rfl | rfl | decide +kernel)
    (case x1_check_rounds => first | k_is | kernel_rfl | rfl | decide +kernel)
    (case x2_check_rounds => first | k_is | kernel_rfl | rfl | decide +kernel)
    (case x3_check_rounds => first | k_is | kernel_rfl | rfl | decide +kernel)
    (case x4_check_rounds => first | k_is | kernel_rfl | rfl | decide +kernel)
    (case x1_round_from => first | k_is | kernel_rfl | rfl | decide +kernel)
    (case x2_round_from => first | k_is | kernel_rfl | rfl | decide +kernel)
    (case x3_round_from => first | k_is | kernel_rfl | rfl | decide +kernel)
    (case x4_round_from => first | k_is | kernel_rfl | rfl | decide +kernel)
    (case x1__law_fresh => first | k_is | kernel_rfl | rfl | decide +kernel)
    (case x2__law_fresh => first | k_is | kernel_rfl | rfl | decide +kernel)
    (case x3__law_fresh => first | k_is | kernel_rfl | rfl | decide +kernel)
    (case x4__law_fresh => first | k_is | kernel_rfl | rfl | decide +kernel)
    (case x1__law_take => first | k_is | kernel_rfl | rfl | decide +kernel)
    (case x2__law_take => first | k_is | kernel_rfl | rfl | decide +kernel)
    (case x3__law_take => first | k_is | kernel_rfl | rfl | decide +kernel)
    (case x4__law_take => first | k_is | kernel_rfl | rfl | decide +kernel)
    (case x1__law_one => first | k_is | kernel_rfl | rfl | decide +kernel)
    (case x2__law_one => first | k_is | kernel_rfl | rfl | decide +kernel)
    (case x3__law_one => first | k_is | kernel_rfl | rfl | decide +kernel)
    (case x4__law_one => first | k_is | kernel_rfl | rfl | decide +kernel)
    (case x1__law_mix => first | k_is | kernel_rfl | rfl | decide +kernel)
    (case x2__law_mix => first | k_is | kernel_rfl | rfl | decide +kernel)
    (case x3__law_mix => first | k_is | kernel_rfl | rfl | decide +kernel)
    (case x4__law_mix => first | k_is | kernel_rfl | rfl | decide +kernel)
    (case x1__law_same => first | k_is | kernel_rfl | rfl | decide +kernel)
    (case x2__law_same => first | k_is | kernel_rfl | rfl | decide +kernel)
    (case x3__law_same => first | k_is | kernel_rfl | rfl | decide +kernel)
    (case x4__law_same => first | k_is | kernel_rfl | rfl | decide +kernel)
    (case x1__law_same_dict => first | k_is | kernel_rfl | rfl | decide +kernel)
    (case x2__law_same_dict => first | k_is | kernel_rfl | rfl | decide +kernel)
    (case x3__law_same_dict => first | k_is | kernel_rfl | rfl | decide +kernel)
    (case x4__law_same_dict => first | k_is | kernel_rfl | rfl | decide +kernel)
    (case x1__law_names => first | k_is | kernel_rfl | rfl | decide +kernel)
    (case x2__law_names => first | k_is | kernel_rfl | rfl | decide +kernel)
    (case x3__law_names => first | k_is | kernel_rfl | rfl | decide +kernel)
    (case x4__law_names => first | k_is | kernel_rfl | rfl | decide +kernel)
    (case x1__law_rising => first | k_is | kernel_rfl | rfl | decide +kernel)
    (case x2__law_rising => first | k_is | kernel_rfl | rfl | decide +kernel)
    (case x3__law_rising => first | k_is | kernel_rfl | rfl | decide +kernel)
    (case x4__law_rising => first | k_is | kernel_rfl | rfl | decide +kernel)
    (case x1__law_hung => first | k_is | kernel_rfl | rfl | decide +kernel)
    (case x2__law_hung => first | k_is | kernel_rfl | rfl | decide +kernel)
    (case x3__law_hung => first | k_is | kernel_rfl | rfl | decide +kernel)
    (case x4__law_hung => first | k_is | kernel_rfl | rfl | decide +kernel)
    (case x1__law_with => first | k_is | kernel_rfl | rfl | decide +kernel)
    (case x2__law_with => first | k_is | kernel_rfl | rfl | decide +kernel)
    (case x3__law_with => first | k_is | kernel_rfl | rfl | decide +kernel)
    (case x4__law_with => first | k_is | kernel_rfl | rfl | decide +kernel)
    (case x1__law_way => first | k_is | kernel_rfl | rfl | decide +kernel)
    (case x2__law_way => first | k_is | kernel_rfl | rfl | decide +kernel)
    (case x3__law_way => first | k_is | kernel_rfl | rfl | decide +kernel)
    (case x4__law_way => first | k_is | kernel_rfl | rfl | decide +kernel)
    (case x1__law_tried => first | k_is | kernel_rfl | rfl | decide +kernel)
    (case x2__law_tried => first | k_is | kernel_rfl | rfl | decide +kernel)
    (case x3__law_tried => first | k_is | kernel_rfl | rfl | decide +kernel)
    (case x4__law_tried => first | k_is | kernel_rfl | rfl | decide +kernel)
    (case x1_law => first | k_is | kernel_rfl | rfl | decide +kernel)
    (case x2_law => first | k_is | kernel_rfl | rfl | decide +kernel)
    (case x3_law => first | k_is | kernel_rfl | rfl | decide +kernel)
    (case x4_law => first | k_is | kernel_rfl | rfl | decide +kernel)
    (case x1_CLOCK => first | k_is | kernel_rfl | rfl | decide +kernel)
    (case x1_LETTERS => first | k_is | kernel_rfl | rfl | decide +kernel)
    (case x1_LONGEST_NAME => first | k_is | kernel_rfl | rfl | decide +kernel)
    (case x1_len => first | k_is | kernel_rfl | rfl | decide +kernel)
    (case x1_abs => first | k_is | kernel_rfl | rfl | decide +kernel)
    (case x1_int => first | k_is | kernel_rfl | rfl | decide +kernel)
    (case x1_list => first | k_is | kernel_rfl | rfl | decide +kernel)
    (case x1_tuple => first | k_is | kernel_rfl | rfl | decide +kernel)
    (case x1_bool => first | k_is | kernel_rfl | rfl | decide +kernel)
    (case x1_str => first | k_is | kernel_rfl | rfl | decide +kernel)
    (case x1_dict => first | k_is | kernel_rfl | rfl | decide +kernel)
    (case x1_isinstance => first | k_is | kernel_rfl | rfl | decide +kernel)
    (case x1_all => first | k_is | kernel_rfl | rfl | decide +kernel)
    (case x1_any => first | k_is | kernel_rfl | rfl | decide +kernel)
    (case x1_zip => first | k_is | kernel_rfl | rfl | decide +kernel)
    (case x1_enumerate => first | k_is | kernel_rfl | rfl | decide +kernel)
    (case x1_range => first | k_is | kernel_rfl | rfl | decide +kernel)
    (case x1_sorted => first | k_is | kernel_rfl | rfl | decide +kernel)
    (case x1_iter => first | k_is | kernel_rfl | rfl | decide +kernel)
    (case u1 => first | k_is | kernel_rfl | rfl | decide +kernel)
    (case u2 => first | k_is | kernel_rfl | rfl | decide +kernel)
    (case u3 => first | k_is | kernel_rfl | rfl | decide +kernel)
    (case u4 => first | k_is | kernel_rfl | rfl | decide +kernel)
    (case u5 => first | k_is | kernel_rfl | rfl | decide +kernel)
    (case u6 => first | k_is | kernel_rfl | rfl | decide +kernel)
    (case u7 => first | k_is | kernel_rfl | rfl | decide +kernel)
    (case u8 => first | k_is | kernel_rfl | rfl | decide +kernel)
    (case u9 => first | k_is | kernel_rfl | rfl | decide +kernel)
    (case u10 => first | k_is | kernel_rfl | rfl | decide +kernel)
    (case u11 => first | k_is | kernel_rfl | rfl | decide +kernel)
    (case u12 => first | k_is | kernel_rfl | rfl | decide +kernel)
    (case u13 => first | k_is | kernel_rfl | rfl | decide +kernel)
    (case u14 => first | k_is | kernel_rfl | rfl | decide +kernel)
    (case u15 => first | k_is | kernel_rfl | rfl | decide +kernel)
    (case u16 => first | k_is | kernel_rfl | rfl | decide +kernel)
    (case u17 => first | k_is | kernel_rfl | rfl | decide +kernel)
    all_goals exact Value.none
