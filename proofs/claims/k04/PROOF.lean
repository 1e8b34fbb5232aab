import PyProof.Rows.All
import Wide.All
import OpenK.AllK
import Wide.FinOn
import HandS.OwnEq
import HandS.More
import HandS.IsInst
import HandS.Words
import HandS.DeepEq
import HandS.Sort
import KE.KDictList
import HandS.Iter
import HandS.IterVal
import KE.KOwnIter
import HandS.OwnIter
import HandS.NamedTupGet
import PyProof.DictRoadsH
import KE.KOpsOwn
import KE.KExcMake
import HandS.Exc
import HandS.TryOnly
import HandS.ListItems
import HandS.Strs
import HandS.Style
import KE.KRevSl
import PyProof.DictDisplay
import PyProof.DictTable
import HandS.WordsExc
import HandS.ForMost
import HandS.Wide
import HandS.Deep
import HandS.TupAny
import HandS.Flow
import HandS.Zip
import HandS.Defaults
import HandS.DictComp
import HandS.WordsDict
import HandS.Lambda
import HandS.TryMany
import HandS.ExcInit
import HandS.ExcField
import HandS.ForDict
import HandS.EndTab
import PyProof.Rows.StrMeet
import HandS.Star
import HandS.Walk
import KE.GoesMore
import PyProof.Draws
import KE.DataCmp
import PySem.Challenge.RW_cookcalls_k04_meals_changed
set_option Elab.async false
set_option linter.all false
set_option maxRecDepth 100000
set_option maxHeartbeats 2000000
/-! == and != of an instance whose class has an == of its own: any answer, any other thing -/
namespace Own
open PySem PySem.Spec PyProof.Rows L2
theorem tyIs_keeps {s s' : Shared} {u : Value} {T : String} (k : ∀ b o, s.heap.get? b = some o → s'.heap.get? b = some o) (h : s.TypeIs u T) : s'.TypeIs u T := by
  cases u <;> first | exact h | (obtain ⟨o, h1, h2⟩ := h; exact ⟨o, k _ _ h1, h2⟩)
theorem looks_ty {M : Model} {s : Shared} {u : Value} {T : String} (h : s.TypeIs u T) : PySem.W.Looks M s.heap (typeOf u) (.type T) := fun A Q E s' k q => wpAny_typeOf (tyIs_keeps k h) q
/-- what stands on the other side -/
inductive Oth (K : PySem.W.Frag) (H : Hp) (C : Addr) : V → Prop
  | ty {y : V} {T : String} (h : TyB K H y T) (n : PySem.W.notFirst K C (.type T) = true) : Oth K H C y
  | ins {b D dy : Addr} {gs : List (Str × V)} (h : H b = some (.ins D dy gs)) (n : PySem.W.notFirst K C (.ref D) = true) : Oth K H C (.ref b)
theorem Oth.looks {X : Cx} {pins : List (Addr × Obj)} {σ : L2.St} {H : Hp} {s : Shared} {C : Addr} {y : V} {v : Value} (I : L2.Inv X pins σ H s) (ry : L2.RelV y v) (o : Oth X.K H C y) :
    ∃ tb, PySem.W.Looks (model X.prog X.w) s.heap (typeOf v) tb ∧ PySem.W.notFirst X.K C tb = true := by
  cases o with
  | ty h n => exact ⟨_, looks_ty (h.is I ry), n⟩
  | ins h n =>
    cases (show v = Value.ref _ from ry)
    obtain ⟨mB, J, _⟩ := ins_get I.hok h
    obtain ⟨od, J, _⟩ := J.look
    exact ⟨_, J.type, n⟩
theorem non_declines {prog : Program} {w : World} {A : Around} {E : Value → Shared → Prop} {s : Shared} (x : Addr) : wpAny (model prog w) A (tryCompare .none "__eq__" (.ref x)) (fun r s' => r = none ∧ s' = s) E s :=
  wpAny_tryCompare_declines (show s.TypeIs .none "NoneType" from rfl) F.slot_NoneType_eq_refl (call_gives F.slot_NoneType_eq_refl rfl F.entry_NoneType_eq (F.args_NoneType_eq_2 _ _) (PySem.SeqAt.NoneType___eq___none_ref_0 x) ⟨rfl, rfl, rfl⟩)
theorem dict_declines {prog : Program} {w : World} {A : Around} {E : Value → Shared → Prop} {s : Shared} {K : PySem.W.Frag} {d x C : Addr} {ox : Obj} {od : Option Obj} (hT : s.TypeIs (.ref d) "dict") (X : K.In s.heap) (I : PySem.W.InstAt s.heap x ox C od) (hsub : PySem.W.subIn K (.ref C) (.type "dict") = some false) :
    wpAny (model prog w) A (tryCompare (.ref d) "__eq__" (.ref x)) (fun r s' => r = none ∧ s' = s) E s := by
  refine wpAny_tryCompare_declines hT PySem.F.slot_dict_eq_refl (wpAny_call (codeAny_call_builtin PySem.F.slot_dict_eq_refl.plain PySem.F.entry_dict_eq (PySem.F.slot_dict_eq_refl.check _ _ _ _ _ _ _ _ hT (PySem.F.args_dict_eq_2 _ _) ?_)))
  show wpAny _ _ (Builtin.Dict.dictSlotArgs "__eq__" ⟨[.ref d, .ref x], []⟩ >>= _) _ _ s
  refine wpAny_bind ?_
  unfold Builtin.Dict.dictSlotArgs
  refine wpAny_bind (wpAny_notOrdered_dict hT ?_)
  show wpAny _ _ (pure (Value.ref d, Value.ref x)) _ _ s
  refine wpAny_pure ?_
  unfold isInstance
  refine wpAny_bind (wpAny_bind (I.type.here ((PySem.W.looks_subIn X hsub).here ?_)))
  simp only [Bool.not_false, if_true]
  refine wpAny_bind (wpAny_rule (wpAny_bind (wpAny_pure (wpAny_pure ?_))))
  first
    | exact ⟨trivial, rfl, rfl⟩
    | exact ⟨trivial, trivial, rfl⟩
    | exact ⟨trivial, rfl⟩
    | simp
section
variable {X : Cx} {CX : CXT} {C f : Addr} {fd : FuncData} {ps : List Str} {n : Nat} {sp : Sp} {E : XK}
theorem own_call (F : FnOk X.prog X.w X.K X.mg X.base CX n f fd ps sp) (hb : L2.Binds X.K fd ps []) (hx : Passes CX X E) {A : Around} (hr : Room n A) (hfr : A.frames = X.A.frames)
    {pins : List (Addr × Obj)} {s : Shared} {σ : L2.St} {H : Hp} {x y : V} {u v : Value} {R : V → Hp → Prop} (I : L2.Inv X pins σ H s) (rx : L2.RelV x u) (ry : L2.RelV y v) (hsp : sp [x, y] H R E) :
    wpAny (model X.prog X.w) A (call (.ref f) [u, v]) (fun w s' => ∃ z H', L2.RelV z w ∧ L2.Inv X pins σ H' s' ∧ R z H') X.xe s := by
  have e0 : Env0 X.prog X.w X.K X.mg X.base A X.stack s H := by
    have e := I.env0
    exact ⟨by rw [hfr]; exact e.frames, e.mod, e.bs, e.bsz, e.funs, e.frf, e.hok, e.bare⟩
  have hl := F.len _ _ _ _ hsp
  have r2 : L2.Vals [x, y] [u, v] := .cons rx (.cons ry .nil)
  refine wpAny_call (codeAny_mono (F.run A X.stack s H ⟨[u, v], []⟩ [u, v] [x, y] R E hr e0 (by
    have := hb s [u, v] I.kIn (by simpa using hl)
    simpa using this) r2 hsp) fun r s' hq => ?_)
  cases r with
  | error e => exact hx pins σ H s e s' I hq
  | ok fl =>
    cases fl with
    | ret w =>
      obtain ⟨z, H', I', rz, q⟩ := I.after hq
      exact ⟨z, H', rz, I', q⟩
    | next => exact False.elim hq
    | brk => exact False.elim hq
    | cont => exact False.elim hq
/-- the reading of x == y: the own def tells a truth -/
def rOwn (K : PySem.W.Frag) (C : Addr) (sp : Sp) (E : XK) (neg : Bool) : R2 := fun x y H Q => ∃ a dx fs, x = .ref a ∧ H a = some (.ins C dx fs) ∧ Oth K H C y ∧ sp [x, y] H (fun v H' => ∃ b : Bool, v = .bl b ∧ Q (.bl (if neg then !b else b)) H') E
theorem op_eqOwn (F : FnOk X.prog X.w X.K X.mg X.base CX n f fd ps sp) (hs : PySem.W.findIn X.K (.ref C) "__eq__" = some (some (.ref f))) (hf : PySem.W.isFn X.K (.ref f) = true) (hb : L2.Binds X.K fd ps []) (hx : Passes CX X E) (hr : Room n X.A) :
    OpR X (compareOp .Eq) (rOwn X.K C sp E false) := by
  intro pins s σ H x y u v Q I rx ry ⟨a, dx, fs, ex, ha, ho, hsp⟩
  subst ex
  cases (show u = Value.ref a from rx)
  obtain ⟨mA, J, _⟩ := ins_get I.hok ha
  obtain ⟨od, J, _⟩ := J.look
  obtain ⟨m, hF⟩ := I.fr
  obtain ⟨tb, L, hn⟩ := ho.looks I ry
  show wpAny (model X.prog X.w) X.A (richCompare .Eq (.ref a) v) (EP X pins σ Q) X.xe s
  refine PySem.W.cmp_K (op := .Eq) (tb := tb) hr.units0 hF I.ok.mod.kin J L hn hs hf ?_
  refine wpAny_mono (own_call F hb hx hr rfl I (x := .ref a) rfl ry hsp) (fun w s' h => ?_) fun _ _ h => h
  obtain ⟨z, H', rz, I', b, ez, q⟩ := h
  subst ez
  cases (show w = Value.bool b from rz)
  exact ⟨.bl b, H', I', rfl, q⟩
set_option maxHeartbeats 200000 in
theorem entry_ne {prog : Program} {w : World} {A : Around} {E : Value → Shared → Prop} {s : Shared} {K : PySem.W.Frag} {x C f : Addr} {ox : Obj} {od : Option Obj} {b : Value} {Q : Fin → Shared → Prop} (hu : A.units < cLine) (X : K.In s.heap) (I : PySem.W.InstAt s.heap x ox C od)
    (hs : PySem.W.findIn K (.ref C) "__eq__" = some (some (.ref f))) (hf : PySem.W.isFn K (.ref f) = true) (h : wpAny (model prog w) A (call (.ref f) [.ref x, b]) (fun r s' => ∃ c, r = .bool c ∧ Q (.done (.ret (.bool (!c)))) s') E s) :
    wpAny (model prog w) A (Builtin.«object.__ne__» ⟨[.ref x, b], []⟩) Q E s := by
  unfold Builtin.«object.__ne__»
  refine wpAny_bind (wpAny_pure ?_)
  refine wpAny_bind (wpAny_cRoomFor hu ?_)
  refine wpAny_bind (PySem.W.ifBound_K X I hs hf (wpAny_mono h (fun r s' hr => ?_) fun _ _ e => e))
  obtain ⟨c, rfl, q⟩ := hr
  refine wpAny_bind (wpAny_truthy_bool ?_)
  exact wpAny_pure q
theorem ifBound_objNe {M : Model} {A : Around} {E : Value → Shared → Prop} {s : Shared} {K : PySem.W.Frag} {x C : Addr} {ox : Obj} {od : Option Obj} {args : List Value} {Q : Option Value → Shared → Prop} (X : K.In s.heap) (I : PySem.W.InstAt s.heap x ox C od) (hs : PySem.W.findIn K (.ref C) "__ne__" = some (some (.builtin "object.__ne__")))
    (h : wpAny M A (call (.builtin "object.__ne__") (.ref x :: args)) (fun v => Q (some v)) E s) : wpAny M A (callSpecialIfBound? (.ref x) "__ne__" args) Q E s := by
  simp only [callSpecialIfBound?, bindSpecialIfBound?]
  refine wpAny_holding (wpAny_bind (wpAny_bind (wpAny_bind (I.type.here ((PySem.W.looks_findIn X hs).here ?_)))))
  refine wpAny_bind (wpAny_askSetting (wpAny_ite ?_))
  have fin : wpAny M A (call (.builtin "object.__ne__") ([.ref x] ++ args) >>= fun v => pure (some v)) Q E s := wpAny_bind (wpAny_mono h (fun v s' h' => wpAny_pure h') fun _ _ h' => h')
  split
  · exact wpAny_bind (wpAny_of_eq (F.cmp_object.ne.bind _) (wpAny_pure (by exact fin)))
  · exact wpAny_tryCatch (wpAny_bind (wpAny_of_eq (F.cmp_object.ne.bind _) (wpAny_pure (by exact fin))))
theorem rc_ne {prog : Program} {w : World} {A : Around} {E : Value → Shared → Prop} {s : Shared} {K : PySem.W.Frag} {x C f : Addr} {ox : Obj} {od : Option Obj} {b tb : Value} {Q : Value → Shared → Prop} (hu : A.units + 1 < cLine) (X : K.In s.heap) (I : PySem.W.InstAt s.heap x ox C od)
    (hb : PySem.W.Looks (model prog w) s.heap (typeOf b) tb) (hn : PySem.W.notFirst K C tb = true) (hm : PySem.W.mroIn K C (.type "object") = some true) (hne : PySem.W.findIn K (.ref C) "__ne__" = some (some (.builtin "object.__ne__")))
    (hs : PySem.W.findIn K (.ref C) "__eq__" = some (some (.ref f))) (hf : PySem.W.isFn K (.ref f) = true) (h : wpAny (model prog w) A.in1 (call (.ref f) [.ref x, b]) (fun r s' => ∃ c, r = .bool c ∧ Q (.bool (!c)) s') E s) :
    wpAny (model prog w) A (richCompare .NotEq (.ref x) b) Q E s := by
  have one : wpAny (model prog w) A (tryCompare (.ref x) "__ne__" b) (fun r s' => ∃ v, r = some v ∧ Q v s') E s := by
    unfold tryCompare
    refine wpAny_bind (ifBound_objNe X I hne (wpAny_call (codeAny_call_builtin F.cmp_object.ne.plain F.cmpEntry_ne (PySem.W.check_slot F.cmpKind_ne F.cmpSplit_ne (I.type.andThen (PySem.W.looks_mroIn X hm)) (F.cmpArgs_ne _ _)
      (entry_ne (by show A.units + 1 < cLine; exact hu) X I hs hf (wpAny_mono h (fun r s' hr => ?_) fun _ _ e => e))))))
    obtain ⟨c, rfl, q⟩ := hr
    exact ⟨c, rfl, wpAny_pure ⟨_, rfl, q⟩⟩
  unfold richCompare
  simp only [oneThing_ref]
  refine wpAny_holding (wpAny_bind (wpAny_cRoomFor (by omega) ?_))
  refine wpAny_bind (I.type.here (wpAny_bind (hb.here ?_)))
  split
  · rename_i q
    have e : PySem.W.subIn K tb (.ref C) = some false := by
      rcases Bool.or_eq_true_iff.mp hn with e | e
      · rw [beq_iff_eq.mp e] at q; simp at q
      · exact beq_iff_eq.mp e
    refine wpAny_bind ((PySem.W.looks_subIn X e).here ?_)
    simp only [Bool.false_eq_true, if_false]
    refine wpAny_bind (wpAny_mono one (fun r s' z => ?_) fun _ _ e => e)
    obtain ⟨v, rfl, hq⟩ := z
    exact wpAny_pure hq
  · refine wpAny_bind (wpAny_pure ?_)
    simp only [Bool.false_eq_true, if_false]
    refine wpAny_bind (wpAny_mono one (fun r s' z => ?_) fun _ _ e => e)
    obtain ⟨v, rfl, hq⟩ := z
    exact wpAny_pure hq
theorem op_neOwn (F : FnOk X.prog X.w X.K X.mg X.base CX n f fd ps sp) (hne : PySem.W.findIn X.K (.ref C) "__ne__" = some (some (.builtin "object.__ne__"))) (hm : PySem.W.mroIn X.K C (.type "object") = some true)
    (hs : PySem.W.findIn X.K (.ref C) "__eq__" = some (some (.ref f))) (hf : PySem.W.isFn X.K (.ref f) = true) (hb : L2.Binds X.K fd ps []) (hx : Passes CX X E) (hr : Room (n + 1) X.A) :
    OpR X (compareOp .NotEq) (rOwn X.K C sp E true) := by
  intro pins s σ H x y u v Q I rx ry ⟨a, dx, fs, ex, ha, ho, hsp⟩
  subst ex
  cases (show u = Value.ref a from rx)
  obtain ⟨mA, J, _⟩ := ins_get I.hok ha
  obtain ⟨od, J, _⟩ := J.look
  obtain ⟨tb, L, hn⟩ := ho.looks I ry
  show wpAny (model X.prog X.w) X.A (richCompare .NotEq (.ref a) v) (EP X pins σ Q) X.xe s
  have un := hr.un
  refine rc_ne (by omega) I.kIn J L hn hm hne hs hf ?_
  refine wpAny_mono (own_call F hb hx hr.in1 rfl I (x := .ref a) rfl ry hsp) (fun w s' h => ?_) fun _ _ h => h
  obtain ⟨z, H', rz, I', b, ez, q⟩ := h
  subst ez
  cases (show w = Value.bool b from rz)
  exact ⟨b, rfl, .bl (!b), H', I', rfl, q⟩
/-- what is built in on the left declines, then the own == is asked -/
theorem rc_left {prog : Program} {w : World} {A : Around} {E : Value → Shared → Prop} {s : Shared} {K : PySem.W.Frag} {x C f : Addr} {ox : Obj} {od : Option Obj} {a : Value} {T : String} {Q : Value → Shared → Prop} (hu : A.units < cLine) (X : K.In s.heap) (I : PySem.W.InstAt s.heap x ox C od)
    (hT : s.TypeIs a T) (hsub : PySem.W.subIn K (.ref C) (.type T) = some false) (ho : oneThing? .Eq a (.ref x) = none)
    (one : wpAny (model prog w) A (tryCompare a "__eq__" (.ref x)) (fun r s' => r = none ∧ s' = s) E s)
    (hs : PySem.W.findIn K (.ref C) "__eq__" = some (some (.ref f))) (hf : PySem.W.isFn K (.ref f) = true) (h : wpAny (model prog w) A (call (.ref f) [.ref x, a]) (fun r s' => ∃ c, r = .bool c ∧ Q (.bool c) s') E s) :
    wpAny (model prog w) A (richCompare .Eq a (.ref x)) Q E s := by
  have two : wpAny (model prog w) A (tryCompare (.ref x) "__eq__" a) (fun r s' => ∃ v, r = some v ∧ Q v s') E s := by
    unfold tryCompare
    refine wpAny_bind (PySem.W.ifBound_K X I hs hf (wpAny_mono h (fun v s' hv => ?_) fun _ _ e => e))
    obtain ⟨c, rfl, q⟩ := hv
    exact wpAny_pure ⟨_, rfl, q⟩
  simp only [richCompare, cmpInfo_Eq, ho]
  refine wpAny_holding (wpAny_bind (wpAny_cRoomFor hu ?_))
  refine wpAny_bind (wpAny_typeOf hT ?_)
  refine wpAny_bind (I.type.here ?_)
  split
  · refine wpAny_bind ((PySem.W.looks_subIn X hsub).here ?_)
    simp only [Bool.false_eq_true, if_false, Bool.not_false, if_true]
    refine wpAny_bind (m := tryCompare a _ (.ref x)) (wpAny_mono one (fun r s1 z => ?_) fun _ _ e => e)
    obtain ⟨z1, z2⟩ := z
    subst z1
    subst z2
    refine wpAny_bind (m := tryCompare (.ref x) _ a) (wpAny_mono two (fun r s2 z => ?_) fun _ _ e => e)
    obtain ⟨v, rfl, q⟩ := z
    exact wpAny_pure q
  · rename_i q
    exact absurd (by simp) q
/-- None == x -/
def rNonL (C : Addr) (sp : Sp) (E : XK) : R2 := fun x y H Q => x = .non ∧ ∃ a dx fs, y = .ref a ∧ H a = some (.ins C dx fs) ∧ sp [y, .non] H (fun v H' => ∃ b : Bool, v = .bl b ∧ Q (.bl b) H') E
theorem op_eqNonL (F : FnOk X.prog X.w X.K X.mg X.base CX n f fd ps sp) (hsub : PySem.W.subIn X.K (.ref C) (.type "NoneType") = some false)
    (hs : PySem.W.findIn X.K (.ref C) "__eq__" = some (some (.ref f))) (hf : PySem.W.isFn X.K (.ref f) = true) (hb : L2.Binds X.K fd ps []) (hx : Passes CX X E) (hr : Room n X.A) :
    OpR X (compareOp .Eq) (rNonL C sp E) := by
  intro pins s σ H x y u v Q I rx ry ⟨ex, a, dx, fs, ey, ha, hsp⟩
  subst ex
  subst ey
  cases (show u = Value.none from rx)
  cases (show v = Value.ref a from ry)
  obtain ⟨mA, J, _⟩ := ins_get I.hok ha
  obtain ⟨od, J, _⟩ := J.look
  show wpAny (model X.prog X.w) X.A (richCompare .Eq .none (.ref a)) (EP X pins σ Q) X.xe s
  refine rc_left hr.units0 I.kIn J (show s.TypeIs .none "NoneType" from rfl) hsub rfl (non_declines a) hs hf ?_
  refine wpAny_mono (own_call F hb hx hr rfl I (x := .ref a) (y := .non) rfl rfl hsp) (fun w s' h => ?_) fun _ _ h => h
  obtain ⟨z, H', rz, I', b, ez, q⟩ := h
  subst ez
  cases (show w = Value.bool b from rz)
  exact ⟨b, rfl, .bl b, H', I', rfl, q⟩
/-- {..} == x -/
def rDctL (C : Addr) (sp : Sp) (E : XK) : R2 := fun x y H Q => ∃ d kvs a dx fs, x = .ref d ∧ H d = some (.dK kvs) ∧ y = .ref a ∧ H a = some (.ins C dx fs) ∧ sp [y, x] H (fun v H' => ∃ b : Bool, v = .bl b ∧ Q (.bl b) H') E
theorem op_eqDctL (F : FnOk X.prog X.w X.K X.mg X.base CX n f fd ps sp) (hsub : PySem.W.subIn X.K (.ref C) (.type "dict") = some false)
    (hs : PySem.W.findIn X.K (.ref C) "__eq__" = some (some (.ref f))) (hf : PySem.W.isFn X.K (.ref f) = true) (hb : L2.Binds X.K fd ps []) (hx : Passes CX X E) (hr : Room n X.A) :
    OpR X (compareOp .Eq) (rDctL C sp E) := by
  intro pins s σ H x y u v Q I rx ry ⟨d, kvs, a, dx, fs, ex, hd, ey, ha, hsp⟩
  subst ex
  subst ey
  cases (show u = Value.ref d from rx)
  cases (show v = Value.ref a from ry)
  obtain ⟨mA, J, _⟩ := ins_get I.hok ha
  obtain ⟨od, J, _⟩ := J.look
  show wpAny (model X.prog X.w) X.A (richCompare .Eq (.ref d) (.ref a)) (EP X pins σ Q) X.xe s
  have hT : s.TypeIs (.ref d) "dict" := TyB.is I (x := .ref d) rfl (.dK hd)
  refine rc_left hr.units0 I.kIn J hT hsub rfl (dict_declines hT I.kIn J hsub) hs hf ?_
  refine wpAny_mono (own_call F hb hx hr rfl I (x := .ref a) (y := .ref d) rfl rfl hsp) (fun w s' h => ?_) fun _ _ h => h
  obtain ⟨z, H', rz, I', b, ez, q⟩ := h
  subst ez
  cases (show w = Value.bool b from rz)
  exact ⟨b, rfl, .bl b, H', I', rfl, q⟩
end
/-! ### dicts of flat things: == of any answer -/
def eqKv (ks ls : List (Key × V)) : Bool := ks.all fun p => match valV ls p.1 with | some u => eqV p.2 u | none => false
theorem hits_flat {P : Program} {w : World} {A : Around} {s : Shared} {ls : List (Key × V)} {vb : List (Key × Value)} (rb : KV ls vb) (fl : ∀ k u, valV ls k = some u → flatV u = true) {ks : List (Key × V)} {va : List (Key × Value)}
    (ra : KV ks va) : (∀ p ∈ ks, flatV p.2 = true) → PySem.W.KeqHitsP P w A s vb va (eqKv ks ls) := by
  unfold KV at ra
  induction ra with
  | nil => intro _; exact .nil
  | @cons p q ps qs h t k =>
    intro hp
    obtain ⟨h1, h2⟩ := h
    have rr : RelO (valV ls p.1) (valueAt vb p.1) := rb.val p.1
    obtain ⟨key, v⟩ := q
    have h1' : p.1 = key := h1
    have rest := k fun p' hm => hp p' (List.mem_cons_of_mem _ hm)
    cases e : valV ls p.1 with
    | none =>
      rw [e] at rr
      have hn : valueAt vb key = none := by
        rw [← h1']
        cases hv : valueAt vb p.1 with
        | none => rfl
        | some z => rw [hv] at rr; exact rr.elim
      have hb : eqKv (p :: ps) ls = false := by unfold eqKv; rw [List.all_cons, e]; rfl
      rw [hb]
      exact .miss hn
    | some u =>
      rw [e] at rr
      obtain ⟨y, hy, ry⟩ := rr.some_of
      rw [h1'] at hy
      have hb : eqKv (p :: ps) ls = (eqV p.2 u && eqKv ps ls) := by unfold eqKv; rw [List.all_cons, e]
      rw [hb]
      exact .hit hy (eqAt_V h2 ry (hp p List.mem_cons_self) (fl _ _ e)).eqP rest
/-- the reading of a == b -/
def rEqDF : R2 := fun x y H Q => ∃ a b ks ls, x = .ref a ∧ y = .ref b ∧ H a = some (.dK ks) ∧ H b = some (.dK ls) ∧ (∀ p ∈ ks, flatV p.2 = true) ∧ (∀ k u, valV ls k = some u → flatV u = true) ∧ Q (.bl (ks.length == ls.length && eqKv ks ls)) H
theorem op_eqDF {X : Cx} (hu : X.A.units + 64 < cLine) : OpR X (compareOp .Eq) rEqDF := by
  intro pins s σ H x y v u Q I rx ry ⟨a, b, ks, ls, ex, ey, ha, hb, f1, f2, q⟩
  subst ex
  subst ey
  cases (show v = Value.ref a from rx)
  cases (show u = Value.ref b from ry)
  obtain ⟨_, ya, va, ra, da⟩ := (show ObjOk X.prog X.w H s.heap a (.dK ks) from I.hok a _ ha)
  obtain ⟨_, yb, vb, rb, db⟩ := (show ObjOk X.prog X.w H s.heap b (.dK ls) from I.hok b _ hb)
  have la : ks.length = va.length := by unfold KV at ra; exact ra.length
  have lb : ls.length = vb.length := by unfold KV at rb; exact rb.length
  refine PySem.W.rcP_dicts (knd := mixKind X.prog X.w) (r := eqKv ks ls) ya yb da db (by omega) (fun _ => hits_flat rb f2 ra f1) _ _ ?_
  rw [← la, ← lb]
  exact ⟨.bl _, H, I, rfl, q⟩
/-! ### list(d.values()) -/
theorem paired_ix {α β : Type} {R : α → β → Prop} : ∀ {xs : List α} {ys : List β}, xs.length = ys.length → (∀ (i : Nat) (y : β), ys[i]? = some y → ∃ x, xs[i]? = some x ∧ R x y) → Paired R xs ys
  | [], [], _, _ => .nil
  | x :: xs, y :: ys, h, k => by
    obtain ⟨x', e, r⟩ := k 0 y rfl
    cases e
    exact .cons r (paired_ix (Nat.succ.inj h) fun i z hz => k (i + 1) z hz)
  | [], _ :: _, h, _ => nomatch h
  | _ :: _, [], h, _ => nomatch h
def tListVals (td : TE) : TE := fun σ H Q => td σ H fun x H1 => ∃ a kvs, x = V.ref a ∧ H1 a = some (.dK kvs) ∧ ∀ p, H1 p = none → Q (.ref p) (upd H1 p (.lst (kvs.map (·.2))))
theorem pe_listVals {X : Cx} {o : Expr} {td : TE} {p pos apos mpos : Pos} (hc : X.calm = true) (hg : Gl X "list") (hm : X.mg "list" = none) (hd : PE X o td) (hbase : attributeBase o "values" X.env (eval o X.env) = eval o X.env := by rfl) (hline : (apos.endLine == mpos.line) = true := by rfl)
    (hse : starEach [Expr.Call (.Attribute o "values" apos) [] [] mpos] X.env = [(false, eval (Expr.Call (.Attribute o "values" apos) [] [] mpos) X.env)] := by rfl) :
    PE X (.Call (.Name "list" p) [.Call (.Attribute o "values" apos) [] [] mpos] [] pos) (tListVals td) := by
  refine ⟨fun pins s σ H Q I h => ?_⟩
  refine wpAny_Call_Name_kw (ld_blt I hg hm (u := .type "list") (by first | rfl | decide +kernel) ?_ (by first | decide +kernel | decide) (by first | decide +kernel | decide))
  rw [hse]
  refine PySem.callWith_type1 (wpAny_Call_method0_late hbase hline (thn (hd.run pins s σ H _ I h) fun v s1 ⟨x, H1, I1, r1, a, kvs, ex, ha, q⟩ => ?_))
  subst ex
  obtain rfl : v = Value.ref a := r1
  obtain ⟨hz, hsys, vs, rel, dof⟩ := dk_of I1.hok ha
  obtain ⟨ep, dat⟩ := dof.dictAt
  have dat' := dat
  obtain ⟨ob, es, ho, ex, hdat, hko, hpr, hnd⟩ := dat'
  refine ⟨"dict", "dict.values", F.plainAttrs_dict, F.slot_dict_values, F.type_dict_values, ⟨ob, ho, ex.1⟩, fun b e => ?_, Calls.callWith_builtin rfl (PySem.evalArgs_none ?_)⟩
  · cases e
    exact ⟨ob, ho, ex.2.1⟩
  refine call_meetsIn F.slot_dict_values ⟨ob, ho, ex.1⟩ F.entry_dict_values (F.args_dict_values_1 _) (meets_dict_values (mixKind X.prog X.w) a hsys) ⟨⟨vs, dof⟩, ?_⟩
  have k1 : ∀ b u, s1.heap.get? b = some u → (s1.heap.push { cls := .type "dict_values", data := .fields #[.ref a] }).get? b = some u := fun b u e => Heap.get?_push_of_some _ e
  have dat1 : (s1.heap.push { cls := .type "dict_values", data := .fields #[.ref a] }).DictAt (mixKind X.prog X.w) a vs ep := dat.keep k1
  have I2 : L2.Inv X pins σ H1 { s1 with heap := s1.heap.push { cls := .type "dict_values", data := .fields #[.ref a] } } := I1.kept (t' := s1.toks) k1
  have hlv : kvs.length = vs.length := by unfold KV at rel; exact rel.length
  refine PySem.W.kdl_call (s := { s1 with heap := s1.heap.push { cls := .type "dict_values", data := .fields #[.ref a] } }) (PySem.W.kdl_values (knd := mixKind X.prog X.w) (kvs := vs) (ep := ep) (r := s1.heap.objs.size) (d := a)) (I.ok.hd hc) ⟨⟨_, Heap.get?_push_size _ rfl, rfl, rfl⟩, dat1⟩ (by rw [← hlv]; exact hz) fun h' tk acc c' hk hD hacc => ?_
  have hv : L2.Vals (kvs.map (·.2)) acc.toList := by
    refine paired_ix (by rw [List.length_map, Array.length_toList]; exact hlv.trans hacc.1.symm) fun i v e => ?_
    obtain ⟨k, hk2⟩ := hacc.2 i v (by rw [← Array.getElem?_toList]; exact e)
    obtain ⟨x, h1, h2⟩ := KV.at' rel hk2
    exact ⟨x, by rw [List.getElem?_map, h1] <;> rfl, h2⟩
  refine ⟨.ref _, upd H1 _ (.lst (kvs.map (·.2))), I2.laid (t' := tk) hk (Nat.le_refl _)
    (show ObjOk X.prog X.w _ _ _ (.lst (kvs.map (·.2))) from ⟨by rw [List.length_map]; exact hz, acc.toList, c', hv, by rw [Array.toArray_toList]; exact hD⟩), rfl, q _ (I2.hok.fresh (Nat.le_refl _))⟩
end Own
set_option Elab.async false
set_option linter.all false
set_option maxRecDepth 100000
set_option maxHeartbeats 2000000
/-! x in d.values(); iter(d); what is walked of an instance whose own __iter__ returns iter(d) -/
namespace Own
open PySem PySem.Spec PyProof.Rows L2
/-! ### d.values() as a value, and x in it -/
def VvO (d v : Addr) : HO := .ext fun h => h.IsValuesView v d
theorem mt_values {X : Cx} : MtR X "dict.values" (fun x vs H Q => ∃ (d : Addr) (kvs : List (Key × V)), x = .ref d ∧ vs = [] ∧ H d = some (.dK kvs) ∧ ∀ v, H v = none → Q (.ref v) (upd H v (VvO d v))) := by
  intro pins s σ H x xs v us Q I rx rv ⟨d, kvs, ex, e0, hd, q⟩
  subst ex
  subst e0
  cases rv
  cases (show v = Value.ref d from rx)
  obtain ⟨hz, hsys, vs, rel, dof⟩ := dk_of I.hok hd
  refine call_meetsIn F.slot_dict_values dof.typeIs F.entry_dict_values (F.args_dict_values_1 _) (meets_dict_values (mixKind X.prog X.w) d hsys) ⟨⟨vs, dof⟩, ?_⟩
  have hg : (s.heap.push { cls := .type "dict_values", data := .fields #[.ref d] }).get? s.heap.objs.size = some { cls := .type "dict_values", data := .fields #[.ref d] } := Heap.get?_push_size _ rfl
  refine ⟨.ref s.heap.objs.size, upd H _ (VvO d _), I.laid (t' := s.toks) (fun b u e => Heap.get?_push_of_some _ e) (Nat.le_refl _) ?_, rfl, q _ (I.hok.fresh (Nat.le_refl _))⟩
  exact ⟨⟨_, hg, rfl, rfl⟩, ⟨_, hg⟩, fun h1 h2 ⟨o, e, r⟩ k => ⟨o, k _ e, r⟩⟩
theorem entry_citer : entryFor table "proto.contains_iter" = some Builtin.«proto.contains_iter» := entryFor_of_fast (by kernel_rfl)
theorem plain_citer : plainId "proto.contains_iter" = true := by decide +kernel
theorem vals_noc : typeLookup (.type "dict_values") "__contains__" = pure none := by rw [typeLookup_type, builtinLookup_eq_fast]; kernel_rfl
section
variable {prog : Program} {w : World} {A : Around} {I : Addr} {fp wr : List Addr} {vs : List Value} {St : Nat → Heap → Prop}
theorem citer_loop {R : Result → Shared → Prop} (W : Walks prog w A.in1 I fp wr vs.length (fun i v => vs[i]? = some v) St) (x : Value) (r : Value → Bool) (heq : ∀ v ∈ vs, ∀ s, SeqAt.EqAt A.in1 s v x (r v)) :
    ∀ (k i : Nat) (s : Shared), vs.length - i = k → i ≤ vs.length → St i s.heap →
    (∀ h' tk, (∀ b o, b ∉ wr → s.heap.get? b = some o → h'.get? b = some o) → R (.ok (.ret (.bool ((vs.drop i).any r)))) { s with heap := h', toks := tk }) →
    codeAny (model prog w) A (.builtin "proto.contains_iter" ⟨[.ref I, x], []⟩) R s := by
  intro k
  induction k with
  | zero =>
    intro i s hk hi hst hR
    have e : i = vs.length := by omega
    subst e
    refine codeAny_builtin entry_citer ?_
    rw [Around.under_plainId plain_citer _]
    show wpAny _ A.in1 (pyNext (.ref I) >>= _) _ _ s
    refine wpAny_bind (W.done s _ _ hst fun h' tk hm => ?_)
    have q := hR h' tk hm
    rw [List.drop_length] at q
    exact wpAny_bind (wpAny_rule (wpAny_pure q))
  | succ k ih =>
    intro i s hk hi hst hR
    have hlt : i < vs.length := by omega
    refine codeAny_builtin entry_citer ?_
    rw [Around.under_plainId plain_citer _]
    show wpAny _ A.in1 (pyNext (.ref I) >>= _) _ _ s
    refine wpAny_bind (W.item i s _ _ hlt hst fun v h' tk hP hst' hm => ?_)
    have hv : vs[i] = v := by rw [List.getElem?_eq_getElem hlt] at hP; exact Option.some.inj hP
    show wpAny _ A.in1 (eqBool v x >>= _) _ _ _
    refine wpAny_bind (heq v (List.mem_of_getElem? hP) _ _ _ _ _ ?_)
    have ed : (vs.drop i).any r = (r v || (vs.drop (i + 1)).any r) := by rw [List.drop_eq_getElem_cons hlt, List.any_cons, hv]
    cases hr : r v with
    | true =>
      rw [ed, hr, Bool.true_or] at hR
      refine wpAny_bind (wpAny_rule (wpAny_pure (hR h' tk hm)))
    | false =>
      rw [ed, hr, Bool.false_or] at hR
      exact wpAny_pure ⟨plainId_quiet plain_citer _, ih (i + 1) { s with heap := h', toks := tk } (by omega) hlt hst' fun h2 tk2 hm2 => hR h2 tk2 fun b o nb e => hm2 b o nb (hm b o nb e)⟩
end
def rInVals (K : PySem.W.Frag) : R2 := fun x y H Q => ∃ v d kvs, y = .ref v ∧ H v = some (VvO d v) ∧ Rd H d (.dK kvs) ∧ flatV x = true ∧ (kvs.map (·.2)).all flatV = true ∧ Q (.bl (inV x (kvs.map (·.2)))) H
theorem op_inVals {X : Cx} (hc : X.calm = true) : OpR X (compareOp .In) (rInVals X.K) := by
  intro pins s σ H x y v u Q I rx ry ⟨va, d, kvs, ey, hv, hd, fx, fs, q⟩
  subst ey
  cases (show u = Value.ref va from ry)
  have view : s.heap.IsValuesView va d := (show ObjOk X.prog X.w H s.heap va (VvO d va) from I.hok va _ hv).1
  obtain ⟨hz, hsys, vs, rel, dof⟩ := dk_rd I.hok hd
  obtain ⟨ep, dat⟩ := dof.dictAt
  have hT := view.typeIs
  have hlv : kvs.length = vs.length := by unfold KV at rel; exact rel.length
  have hvals : Vals (kvs.map (·.2)) (vs.map (·.2)) := paired_ix (by rw [List.length_map, List.length_map]; exact hlv) fun i z e => by
    rw [List.getElem?_map] at e
    cases e2 : vs[i]? with
    | none => rw [e2] at e; cases e
    | some p =>
      rw [e2] at e
      obtain ⟨y, h1, h2⟩ := KV.at' rel (i := i) (k := p.1) (v := p.2) e2
      obtain rfl : p.2 = z := Option.some.inj e
      exact ⟨y, by rw [List.getElem?_map, h1]; rfl, h2⟩
  show wpAny (model X.prog X.w) X.A ((contains (.ref va) v) >>= fun b => pure (Value.bool b)) (EP X pins σ Q) X.xe s
  refine wpAny_bind ?_
  unfold contains
  refine wpAny_holding ?_
  have e0 : stdlibNamesSay? (.ref va) v = none := by
    first | rfl | (cases v <;> rfl)
  simp only [e0]
  refine wpAny_bind (wpAny_specialOf hT vals_noc ?_)
  refine wpAny_ite_split (fun hab => absurd hab (by decide)) (fun _ => ?_)
  unfold callSpecialUnlessNone?
  refine wpAny_bind (wpAny_bind (wpAny_specialOf hT vals_noc ?_))
  refine wpAny_pure ?_
  refine wpAny_bind (wpAny_rule ?_)
  refine wpAny_bind (wpAny_tryCatch (wpAny_pyIter_values (knd := mixKind X.prog X.w) view dat ?_))
  have kp : ∀ b o, s.heap.get? b = some o → (s.heap.push { cls := .type "dict_valueiterator", data := .fields #[.ref d, .int 0 0, .int vs.length 0, .int ep 0] }).get? b = some o := fun b o e => Heap.get?_push_of_some _ e
  have hit : (s.heap.push { cls := .type "dict_valueiterator", data := .fields #[.ref d, .int 0 0, .int vs.length 0, .int ep 0] }).IsValIter s.heap.objs.size d 0 vs.length ep := ⟨_, Heap.get?_push_size _ rfl, rfl, rfl⟩
  have ne : d ≠ s.heap.objs.size := Nat.ne_of_lt dat.lt_size
  have W := Walks.dictValues (prog := X.prog) (w := X.w) (A := X.A.in1.in1) (knd := mixKind X.prog X.w) (I.ok.hd hc) s.heap.objs.size d ne vs ep
  have ln : (vs.map (·.2)).length = vs.length := List.length_map ..
  have W2 : Walks X.prog X.w X.A.in1 s.heap.objs.size [s.heap.objs.size, d] [s.heap.objs.size] (vs.map (·.2)).length (fun i v => (vs.map (·.2))[i]? = some v) (fun i h => h.IsValIter s.heap.objs.size d i vs.length ep ∧ h.DictAt (mixKind X.prog X.w) d vs ep) :=
    ⟨W.of_in1.sub, W.of_in1.frame, fun i s Q E hi st hQ => W.of_in1.item i s Q E (by rw [ln] at hi; exact hi) st fun z h' tk hP => hQ z h' tk (by
      obtain ⟨k, e⟩ := hP
      rw [List.getElem?_map, e]
      rfl), fun s Q E st hQ => W.of_in1.done s Q E (by rw [ln] at st; exact st) hQ, W.of_in1.self⟩
  refine wpAny_bind (wpAny_runValue (citer_loop W2 v (eqU x) (fun z hz s' => mem_eqAt rx ‹_› hvals fs z hz) _ 0 { s with heap := _ } rfl (Nat.zero_le _) ⟨hit, dat.push _⟩ fun h' tk hm => ?_))
  have kp2 : ∀ b o, s.heap.get? b = some o → h'.get? b = some o := fun b o e => hm b o (fun z => by
    rw [List.mem_singleton.mp z] at e
    exact Nat.lt_irrefl _ (Heap.lt_size e)) (kp b o e)
  have fin : wpAny (model X.prog X.w) X.A (pure (Value.bool (inV x (kvs.map (·.2))))) (EP X pins σ Q) X.xe { s with heap := h', toks := tk } := wpAny_pure ⟨.bl _, H, I.kept (t' := tk) kp2, rfl, q⟩
  rw [List.drop_zero, any_eqU hvals fs]
  exact wpAny_pure fin
theorem inValsOf {X : Cx} {K : PySem.W.Frag} (h : X.K = K) (hc : X.calm = true) : OpR X (compareOp .In) (rInVals K) := h ▸ op_inVals hc
theorem bm0Of {X : Cx} {K : PySem.W.Frag} (h : X.K = K) {T id : String} {name : Str} {o : Expr} {to : TE} {r : V → List V → Hp → VK → Prop} {apos cpos : Pos} (pa : PlainAttrs T) (slot : Slot T name id) (hty : typeOf (.builtin id) = pure (.type "method_descriptor")) (hm : MtR X id r) (ho : PE X o to)
    (hbase : attributeBase o name X.env (eval o X.env) = eval o X.env := by rfl) (hline : (apos.endLine == cpos.line) = true := by rfl) : PE X (.Call (.Attribute o name apos) [] [] cpos) (tBM0 K T r to) := h ▸ pe_bm0 pa slot hty hm ho hbase hline
end Own
set_option Elab.async false
set_option linter.all false
set_option maxRecDepth 100000
set_option maxHeartbeats 2000000
/-! iter(d); what is walked of an instance whose own __iter__ returns iter(d) -/
namespace Own
open PySem PySem.Spec PyProof.Rows L2
/-! ### a base as large as the heap of a call -/
def padTo (h : Heap) (n : Nat) : Heap := { h with objs := h.objs ++ Array.replicate (n - h.objs.size) { cls := .none, data := .freed } }
theorem padTo_get {h : Heap} {n : Nat} {b : Addr} : (padTo h n).get? b = h.get? b := by
  unfold padTo Heap.get?
  rcases Nat.lt_or_ge b h.objs.size with lt | ge
  · rw [Array.getElem?_append_left lt]
  · rw [Array.getElem?_append_right ge, Array.getElem?_eq_none ge]
    rcases Nat.lt_or_ge (b - h.objs.size) (n - h.objs.size) with l2 | g2
    · rw [Array.getElem?_replicate, if_pos l2]
    · rw [Array.getElem?_replicate, if_neg (Nat.not_lt.mpr g2)]
theorem padTo_size {h : Heap} {n : Nat} (hn : h.objs.size ≤ n) : (padTo h n).objs.size = n := by
  unfold padTo
  simp only [Array.size_append, Array.size_replicate]
  omega
theorem padTo_ns {h : Heap} {n : Nat} {a : Addr} {m : Str → Option Value} (x : h.Ns a m) : (padTo h n).Ns a m := x.keeps fun b o e => padTo_get.trans e
theorem padTo_mod {K : PySem.W.Frag} {mg : Str → Option Value} {h : Heap} {n : Nat} (M : Mod K mg h) : Mod K mg (padTo h n) :=
  ⟨M.kin.keeps fun b o e => padTo_get.trans e, padTo_ns M.glob, M.blt.imp fun mb z => ⟨padTo_ns z.1, z.2⟩, M.nolimit.imp fun mc z => ⟨padTo_ns z.1, z.2⟩⟩
theorem padTo_frames {h base : Heap} {n : Nat} : ∀ {l : List Env}, h.FunFrames base l → h.FunFrames (padTo base n) l
  | [], _ => trivial
  | env :: rest, ⟨hk, ⟨L, o, hf, hn, ho, hd⟩, hr⟩ => ⟨hk, ⟨L, o, hf, padTo_get.trans hn, ho, hd⟩, padTo_frames hr⟩
section
variable {X : Cx} {pins : List (Addr × Obj)} {σ : L2.St} {H : Hp} {s : Shared}
theorem env_pad {A1 : Around} (hf : A1.frames = X.A.frames) (I : L2.Inv X pins σ H s) : Env0 X.prog X.w X.K X.mg (padTo X.base s.heap.objs.size) A1 X.stack s H := by
  have e := I.env0
  exact ⟨hf.trans e.frames, padTo_mod e.mod, fun b o z => e.bs b o (padTo_get.symm.trans z), by rw [padTo_size e.bsz]; exact Nat.le_refl _, padTo_frames e.funs, e.frf, e.hok, e.bare⟩
end
/-! ### iter(d) -/
def KiO (d : Addr) (od : Obj) (it : Addr) : HO := .ext fun h => ∃ es ep, od.data = .dict es ep ∧ h.IsKeyIter it d 0 es.size ep
def rIterD (n : Nat) : List V → Hp → VK → Prop := fun xs H Q => ∃ (d : Addr) (od : Obj) (kvs : List (Key × V)), xs = [.ref d] ∧ H d = some (.frz od (.dK kvs)) ∧ ∀ it, H it = none → n ≤ it → Q (.ref it) (upd H it (KiO d od it))
theorem call_iterD {X : Cx} : CallR X (.builtin "iter") (rIterD X.base.objs.size) := by
  intro pins s σ H xs us Q I r ⟨d, od, kvs, ex, hd, q⟩
  subst ex
  obtain rfl := Vals.ref1 r
  obtain ⟨hs, hgd, hx, es, ep, vs, hdt, hsz, kv, hm⟩ := I.frzK hd
  refine Calls.call_function_entry (by decide +kernel) (by decide +kernel) PySem.W.kdk_entry_iter (PySem.W.kdk_args_iter _) ?_
  unfold Builtin.«iter»
  refine wpAny_bind (m := someArgs "iter" 1 2 _) (wpAny_of_eq (a := [Value.ref d]) (by first | rfl | kernel_rfl!) ?_)
  show wpAny _ _ (pyIter (.ref d) >>= fun z => ret z) _ _ s
  refine wpAny_bind (iter_keys hs hgd hx hdt ?_)
  have hg : (s.heap.push { cls := .type "dict_keyiterator", data := .fields #[.ref d, .int 0 0, .int es.size 0, .int ep 0] }).get? s.heap.objs.size = some { cls := .type "dict_keyiterator", data := .fields #[.ref d, .int 0 0, .int es.size 0, .int ep 0] } := Heap.get?_push_size _ rfl
  refine wpAny_pure ⟨_, rfl, .ref s.heap.objs.size, upd H _ (KiO d od _), I.laid (t' := s.toks) (fun b u e => Heap.get?_push_of_some _ e) (Nat.le_refl _) ?_, rfl, q _ (I.hok.fresh (Nat.le_refl _)) (Nat.le_trans I.ok.bsz I.sz)⟩
  exact ⟨⟨es, ep, hdt, ⟨_, hg, rfl, rfl⟩⟩, ⟨_, hg⟩, fun h1 h2 ⟨es, ep, e, o, e1, r⟩ k => ⟨es, ep, e, o, k _ e1, r⟩⟩
/-- what __iter__ of the own class tells: an iterator over a dict's keys -/
def ItTold (R : It → Hp → Prop) (m : Nat) : VK := fun v H2 => ∃ it d od kvs, v = V.ref it ∧ H2 it = some (KiO d od it) ∧ H2 d = some (.frz od (.dK kvs)) ∧ m ≤ it ∧ R (Itk d od kvs) (ItX.dropH H2 it)
def iOwn (C : Addr) (sp : Nat → Sp) (E : XK) (te : TE) : TI := fun σ H R => te σ H fun x H1 => ∃ a dx fs, x = V.ref a ∧ H1 a = some (.ins C dx fs) ∧ ∀ m, sp m [x] H1 (ItTold R m) E
section
variable {X : Cx} {CX : CXT} {C f : Addr} {fd : FuncData} {ps : List Str} {n : Nat} {sp : Nat → Sp} {E : XK}
theorem own_it (F : ∀ base, FnOk X.prog X.w X.K X.mg base CX n f fd ps (sp base.objs.size)) (hb : L2.Binds X.K fd ps []) (hx : Passes CX X E) {A : Around} (hr : Room n A) (hfr : A.frames = X.A.frames)
    (hs : PySem.W.findIn X.K (.ref C) "__iter__" = some (some (.ref f))) (hf : PySem.W.isFn X.K (.ref f) = true)
    {pins : List (Addr × Obj)} {s : Shared} {σ : L2.St} {H : Hp} {a dx : Addr} {fs : List (Str × V)} {T : Nat → VK} (hT : ∀ m v H2, T m v H2 → ∃ it d od, v = V.ref it ∧ H2 it = some (KiO d od it)) (I : L2.Inv X pins σ H s) (ha : H a = some (.ins C dx fs)) (hsp : ∀ m, sp m [.ref a] H (T m) E) :
    wpAny (model X.prog X.w) A (pyIter (.ref a)) (fun u s' => ∃ it H2, u = .ref it ∧ L2.Inv X pins σ H2 s' ∧ T s.heap.objs.size (.ref it) H2) X.xe s := by
  obtain ⟨mA, J, _⟩ := ins_get I.hok ha
  obtain ⟨od0, J, _⟩ := J.look
  obtain ⟨m, hF⟩ := I.fr
  refine PySem.W.owit_iter hF I.ok.mod.kin J hs hf ?_
  have e0 := env_pad hfr I
  have hsp := hsp (padTo X.base s.heap.objs.size).objs.size
  have F := F (padTo X.base s.heap.objs.size)
  have hl := F.len _ _ _ _ hsp
  have r2 : L2.Vals [V.ref a] [Value.ref a] := .cons rfl .nil
  refine wpAny_call (codeAny_mono (F.run A X.stack s H ⟨[.ref a], []⟩ [.ref a] [.ref a] _ E hr e0 (by
    have := hb s [.ref a] I.kIn (by simpa using hl)
    simpa using this) r2 hsp) fun r s' hq => ?_)
  rw [padTo_size (Nat.le_trans I.ok.bsz I.sz)] at hq
  cases r with
  | error e => exact hx pins σ H s e s' I hq
  | ok fl =>
    cases fl with
    | ret u =>
      obtain ⟨v, H2, I2, rv, ht⟩ := I.after hq
      obtain ⟨it, d, od, ev, h1⟩ := hT _ _ _ ht
      subst ev
      cases (show u = Value.ref it from rv)
      have hk : ∃ es ep, od.data = .dict es ep ∧ s'.heap.IsKeyIter it d 0 es.size ep := (show ObjOk X.prog X.w H2 s'.heap it (KiO d od it) from I2.hok it _ h1).1
      obtain ⟨es, ep, _, hk⟩ := hk
      show PySem.W.OwitIt _ _ _ _ _ _
      unfold PySem.W.OwitIt
      refine wpAny_specialOf hk.typeIs PySem.F.slot_dict_keyiterator_next.lookup ?_
      exact ⟨it, H2, rfl, I2, ht⟩
    | next => exact False.elim hq
    | brk => exact False.elim hq
    | cont => exact False.elim hq
theorem pi_own {tg e : Expr} {te : TE} (F : ∀ base, FnOk X.prog X.w X.K X.mg base CX n f fd ps (sp base.objs.size)) (hb : L2.Binds X.K fd ps []) (hx : Passes CX X E) (hr : Room n X.A)
    (hs : PySem.W.findIn X.K (.ref C) "__iter__" = some (some (.ref f))) (hf : PySem.W.isFn X.K (.ref f) = true) (he : PE X e te) : PI X tg e (iOwn C sp E te) := by
  refine ⟨fun pins s σ H R I h => ?_⟩
  refine thn (he.run pins s σ H _ I h) fun v s1 ⟨x, H1, I1, r1, a, dx, fs, ex, ha, hsp⟩ => ?_
  subst ex
  cases (show v = Value.ref a from r1)
  refine wpAny_mono (own_it F hb hx hr rfl hs hf (fun m v H2 ⟨it, d, od, kvs, e1, e2, _⟩ => ⟨it, d, od, e1, e2⟩) I1 ha hsp) (fun u s2 h2 => ?_) fun _ _ z => z
  obtain ⟨it0, H2, eu, I2, it, d, od, kvs, e0, hi, hd, hz, hR⟩ := h2
  have e9 : it = it0 := by cases e0; rfl
  subst e9
  have hz := Nat.le_trans I1.sz hz
  obtain ⟨es, ep, hod, hk⟩ := (show ObjOk X.prog X.w H2 s2.heap it (KiO d od it) from I2.hok it _ hi).1
  obtain ⟨_, _, _, es2, ep2, vs, hdt, hsz, kv, hm⟩ := I2.frzK hd
  obtain ⟨e1, e2⟩ := dict_ep hod hdt
  subst e1
  rw [hsz] at hk
  refine ⟨it, [it], _, _, _, eu, ItX.inv_drop I2 hi, turn_keys it hod, hk, fun b hb => ?_, hR⟩
  rw [List.mem_singleton.mp hb]
  exact ItX.inv_fp I2 hi hz
/-- the keys fill a list -/
theorem key_loop {pins : List (Addr × Obj)} {σ : L2.St} {A : Around} {Rs : Result → Shared → Prop} {S d it : Addr} {od : Obj} {kvs : List (Key × V)} {ep : Nat} {es : Array DictEntry} (hh : A.handled = none) (hod : od.data = .dict es ep) (hz : kvs.length ≤ sizeLine) (hS : S ≠ it) (hSd : S ≠ d)
    : ∀ (k i : Nat) (H : Hp) (s : Shared), kvs.length - i = k → i ≤ kvs.length → L2.Inv X pins σ H s → FpOk X pins H it → H d = some (.frz od (.dK kvs)) → H S = some (.lst ((kvs.take i).map fun p => kV p.1)) → s.heap.IsKeyIter it d i kvs.length ep →
      (∀ s', L2.Inv X pins σ (upd H S (.lst (kvs.map fun p => kV p.1))) s' → Rs (.ok (.ret .none)) s') →
      codeAny (model X.prog X.w) A (.builtin "list.extend.loop" ⟨[.ref S, .ref it, .none], []⟩) Rs s := by
  intro k
  induction k with
  | zero =>
    intro i H s hk hi I fp hd hl st hR
    have e : i = kvs.length := by omega
    subst e
    obtain ⟨f0, f1, f2, f3, f4, f5⟩ := fp
    obtain ⟨_, hgd, _, es2, ep2, vs, hdt, hsz, kv, hm⟩ := I.frzK hd
    obtain ⟨e1, e2⟩ := dict_ep hod hdt
    subst e1
    subst e2
    refine codeAny_builtin PySem.F.entry_extend_loop ?_
    rw [Around.under_plainId PySem.F.plain_extend_loop _]
    show wpAny _ A.in1 (pyNext (.ref it) >>= _) _ _ s
    refine wpAny_bind (next_key_end hh st hgd hdt hsz (Nat.le_refl _) fun h' eb => ?_)
    have I1 := I.turned (t' := s.toks) (fun b o hb e => eb b o hb e) f0 f1 f3 f4 f5
    rw [List.take_length] at hl
    refine wpAny_pure (hR _ ?_)
    rw [show upd H S (.lst (kvs.map fun p => kV p.1)) = H from by
      funext b
      by_cases hb : b = S
      · rw [hb, upd_same, hl]
      · rw [upd_ne hb]]
    exact I1
  | succ k ih =>
    intro i H s hk hi I fp hd hl st hR
    have hlt : i < kvs.length := by omega
    obtain ⟨f0, f1, f2, f3, f4, f5⟩ := fp
    obtain ⟨_, hgd, _, es2, ep2, vs, hdt, hsz, kv, hm⟩ := I.frzK hd
    obtain ⟨e1, e2⟩ := dict_ep hod hdt
    subst e1
    subst e2
    have hlv : kvs.length = vs.length := Paired.length kv
    obtain ⟨u, hu, ru⟩ := kv_get kv (show kvs[i]? = some (kvs[i].1, kvs[i].2) from List.getElem?_eq_getElem hlt)
    refine codeAny_builtin PySem.F.entry_extend_loop ?_
    rw [Around.under_plainId PySem.F.plain_extend_loop _]
    show wpAny _ A.in1 (pyNext (.ref it) >>= _) _ _ s
    rw [hlv] at st
    refine wpAny_bind (wpAny_pyNext_dict_item st hm hu fun key h' hkey st' sb => ?_)
    have I1 : L2.Inv X pins σ H { s with heap := h' } := I.turned (t' := s.toks) (fun b ob hb e => (sb.2 b hb).trans e) f0 f1 f3 f4 f5
    obtain ⟨z, its, cc, r2, hln, e⟩ := I1.lstM hl
    have lt2 : its.length = i := by rw [← hln, List.length_map, List.length_take]; omega
    show wpAny _ A.in1 (updateSeq S (·.push key) >>= _) _ _ _
    have et : (kvs.take (i + 1)).map (fun p => kV p.1) = (kvs.take i).map (fun p => kV p.1) ++ [kV kvs[i].1] := by rw [List.take_succ, List.getElem?_eq_getElem hlt, List.map_append]; rfl
    refine wpAny_bind (wpAny_updateSeq e rfl (wpAny_pure ⟨plainId_quiet PySem.F.plain_extend_loop _, ?_⟩) (by rw [List.size_toArray]; omega) (by show (its.toArray.push key).size ≤ sizeLine + 1; rw [Array.size_push, List.size_toArray]; omega))
    have I3 := I1.lset (f := (·.push key)) (its' := its ++ [key]) (t' := s.toks) hl e (by simp) (r2.append (.cons (relV_key (show keyIs kvs[i].1 key = true from hkey)) .nil)) (by rw [List.length_append, List.length_singleton, List.length_map, List.length_take]; omega)
    rw [← et] at I3
    have hit2 : (upd H S (.lst ((kvs.take (i + 1)).map fun p => kV p.1))) it = none := by rw [upd_ne hS.symm]; exact f0
    refine ih (i + 1) _ _ (by omega) hlt I3 ⟨hit2, f1, f2, f3, f4, f5⟩ (by rw [upd_ne hSd.symm]; exact hd) upd_same ?_ (fun s' J => hR s' (by rw [upd_upd] at J; exact J))
    show (h'.update S _).IsKeyIter it d (i + 1) kvs.length _
    rw [hlv]
    exact st'.at fun o e => (Heap.get?_update_other _ _ hS).trans e
end
end Own
set_option Elab.async false
set_option linter.all false
set_option maxRecDepth 100000
set_option maxHeartbeats 2000000
/-! list(o), o an instance whose own __iter__ returns iter(d) -/
namespace Own
open PySem PySem.Spec PyProof.Rows L2
/-- a class that tells no length -/
theorem hint_no {M : Model} {A : Around} {E : Value → Shared → Prop} {s : Shared} {Q : Bool → Shared → Prop} {K : PySem.W.Frag} {a C : Addr} {ox : Obj} {od : Option Obj} (n1 : PySem.W.findIn K (.ref C) "__len__" = some none) (n2 : PySem.W.findIn K (.ref C) "__length_hint__" = some none)
    (hK : K.In s.heap) (J : PySem.W.InstAt s.heap a ox C od) (q : Q true s) : wpAny M A (Builtin.List.listLengthHint (.ref a)) Q E s := by
  have l1 := PySem.W.looks_findIn (M := M) hK n1
  have l2 := PySem.W.looks_findIn (M := M) hK n2
  unfold Builtin.List.listLengthHint
  refine wpAny_bind (wpAny_bind (J.type.here (l1.here ?_)))
  refine PySem.W.KFB.if_not (by rfl) (PySem.W.KFB.if_not (by rfl) ?_)
  exact wpAny_bind (wpAny_bind (J.type.here (l2.here (wpAny_pure q))))
def ListTold (C a S : Addr) (Q : VK) (m : Nat) : VK := fun v H2 => ∃ it d od kvs, v = V.ref it ∧ H2 it = some (KiO d od it) ∧ H2 d = some (.frz od (.dK kvs)) ∧ H2 S = some (.lst []) ∧ m ≤ it ∧ (∃ dx fs, H2 a = some (.ins C dx fs)) ∧ Q (.ref S) (upd (ItX.dropH H2 it) S (.lst (kvs.map fun p => kV p.1)))
def rListIt (C : Addr) (sp : Nat → Sp) (E : XK) : List V → Hp → VK → Prop := fun xs H Q => ∃ a dx fs, xs = [V.ref a] ∧ H a = some (.ins C dx fs) ∧ ∀ S, H S = none → ∀ m, sp m [.ref a] (upd H S (.lst [])) (ListTold C a S Q m) E
section
variable {X : Cx} {CX : CXT} {C f : Addr} {fd : FuncData} {ps : List Str} {n : Nat} {sp : Nat → Sp} {E : XK}
theorem list_fill {pins : List (Addr × Obj)} {σ : L2.St} {A : Around} {Rs : Result → Shared → Prop} {S a dx : Addr} {fs : List (Str × V)} {H : Hp} {s : Shared} {Q : VK}
    (F : ∀ base, FnOk X.prog X.w X.K X.mg base CX n f fd ps (sp base.objs.size)) (hb : L2.Binds X.K fd ps []) (hx : Passes CX X E) (hr : Room n A.in1) (hfr : A.in1.frames = X.A.frames) (hh : A.handled = none)
    (hs : PySem.W.findIn X.K (.ref C) "__iter__" = some (some (.ref f))) (hf : PySem.W.isFn X.K (.ref f) = true) (n1 : PySem.W.findIn X.K (.ref C) "__len__" = some none) (n2 : PySem.W.findIn X.K (.ref C) "__length_hint__" = some none)
    (I : L2.Inv X pins σ H s) (ha : H a = some (.ins C dx fs)) (hS : H S = some (.lst [])) (hsp : ∀ m, sp m [.ref a] H (ListTold C a S Q m) E)
    (done : ∀ H' s', L2.Inv X pins σ H' s' → Q (.ref S) H' → Rs (.ok (.ret .none)) s') (bad : ∀ e s', X.xe e s' → Rs (.error e) s') :
    wpAny (model X.prog X.w) A.in1 (Builtin.List.listExtendWith (.ref S) (.ref a) .none)
      (fun fin s' => match fin with | .done g => Rs (.ok g) s' | .again c' => c'.quiet = true ∧ codeAny (model X.prog X.w) A c' Rs s') (fun e s' => Rs (.error e) s') s := by
  have neS : S ≠ a := ne_of hS ha (fun z => nomatch z)
  obtain ⟨mA, J, _⟩ := ins_get I.hok ha
  obtain ⟨od0, J, _⟩ := J.look
  have t1 : Builtin.List.listSameRef (.ref S) (.ref a) = false := by simp [Builtin.List.listSameRef, neS]
  have t2 : (Value.ref C == Value.type "list" || Value.ref C == Value.type "tuple") = false := rfl
  unfold Builtin.List.listExtendWith
  refine wpAny_bind (J.type.here ?_)
  rw [t1, Bool.false_or]
  simp only [t2, Bool.false_eq_true, if_false]
  refine wpAny_bind (wpAny_mono (own_it F hb hx hr hfr hs hf (fun m v H2 ⟨it, d, od, kvs, e1, e2, _⟩ => ⟨it, d, od, e1, e2⟩) I ha hsp) (fun u s2 h2 => ?_) bad)
  obtain ⟨it0, H2, eu, I2, it, d, od, kvs, e0, hi, hd, hS2, hz, ⟨dx2, fs2, ha2⟩, hQ⟩ := h2
  subst eu
  have e9 : it = it0 := by cases e0; rfl
  subst e9
  obtain ⟨mB, J2, _⟩ := ins_get I2.hok ha2
  obtain ⟨od2, J2, _⟩ := J2.look
  refine wpAny_bind (wpAny_holding (hint_no n1 n2 I2.kIn J2 ?_))
  obtain ⟨es, ep, hod, hk⟩ := (show ObjOk X.prog X.w H2 s2.heap it (KiO d od it) from I2.hok it _ hi).1
  obtain ⟨_, _, _, es2, ep2, vs, hdt, hsz, kv, hm⟩ := I2.frzK hd
  obtain ⟨e1, e2⟩ := dict_ep hod hdt
  subst e1
  have nSi : S ≠ it := fun e => by rw [e, hi] at hS2; cases hS2
  have nSd : S ≠ d := fun e => by rw [e, hd] at hS2; cases hS2
  have ndi : d ≠ it := fun e => by rw [e, hi] at hd; cases hd
  have hzk : kvs.length ≤ sizeLine := (dk_rd I2.hok (.inr ⟨od, hd⟩)).1
  have I3 := ItX.inv_drop I2 hi
  have fp := ItX.inv_fp I2 hi (Nat.le_trans I.sz hz)
  have hS3 : ItX.dropH H2 it S = some (.lst []) := (ItX.dropH_ne nSi).trans hS2
  have hd3 : ItX.dropH H2 it d = some (.frz od (.dK kvs)) := (ItX.dropH_ne ndi).trans hd
  generalize ItX.dropH H2 it = H3 at I3 fp hS3 hd3 hQ
  have go : ∀ (s' : Shared), L2.Inv X pins σ H3 s' → s'.heap.IsKeyIter it d 0 kvs.length ep → codeAny (model X.prog X.w) A (.builtin "list.extend.loop" ⟨[.ref S, .ref it, .none], []⟩) Rs s' := fun s' I' st' =>
    key_loop hh hod hzk nSi nSd _ 0 H3 s' rfl (Nat.zero_le _) I' fp hd3 hS3 st' fun s'' I'' => done _ s'' I'' hQ
  rw [hsz] at hk
  obtain ⟨zz, its, cc, r3, ln3, e3⟩ := I3.lstM hS3
  cases r3
  refine wpAny_ite_split (fun _ => ?_) (fun _ => wpAny_pure ⟨plainId_quiet PySem.F.plain_extend_loop _, go s2 I3 hk⟩)
  refine wpAny_bind (wpAny_rule (wpAny_bind ?_))
  show wpAny _ _ (updateSeq S (·.push .none) >>= fun _ => updateSeq S (·.pop)) _ _ _
  refine wpAny_bind (wpAny_updateSeq e3 rfl ?_)
  have J1 := I3.lset (f := (·.push Value.none)) (its' := [Value.none]) (ys := [V.non]) (t' := s2.toks) hS3 e3 (by simp) (.cons rfl .nil) (by rw [List.length_singleton, sizeLine_eq]; decide)
  obtain ⟨z4, its4, c4, r4, ln4, e4⟩ := J1.lstM upd_same
  obtain ⟨u4, rfl, ru4⟩ := r4.one
  refine wpAny_updateSeq e4 rfl (wpAny_pure ⟨plainId_quiet PySem.F.plain_extend_loop _, go _ ?_ ?_⟩) (by show 1 ≤ sizeLine; rw [sizeLine_eq]; decide) (by show 0 ≤ sizeLine + 1; exact Nat.zero_le _)
  · have J2 := J1.lset (f := (·.pop)) (its := [u4]) (its' := []) (ys := []) (t' := s2.toks) upd_same e4 (by rfl) .nil (Nat.zero_le _)
    rw [upd_upd, show upd H3 S (.lst []) = H3 from by
      funext b
      by_cases hb : b = S
      · rw [hb, upd_same, hS3]
      · rw [upd_ne hb]] at J2
    exact J2
  · exact hk.at fun o e => (Heap.get?_update_other _ _ nSi).trans ((Heap.get?_update_other _ _ nSi).trans e)
theorem call_listIt (F : ∀ base, FnOk X.prog X.w X.K X.mg base CX n f fd ps (sp base.objs.size)) (hb : L2.Binds X.K fd ps []) (hx : Passes CX X E) (hc : X.calm = true) (hr : Room (n + 2) X.A)
    (hs : PySem.W.findIn X.K (.ref C) "__iter__" = some (some (.ref f))) (hf : PySem.W.isFn X.K (.ref f) = true) (n1 : PySem.W.findIn X.K (.ref C) "__len__" = some none) (n2 : PySem.W.findIn X.K (.ref C) "__length_hint__" = some none) :
    CallR X (.type "list") (rListIt C sp E) := by
  intro pins s σ H xs us Q I rv ⟨a, dx, fs, ex, ha, hq⟩
  subst ex
  obtain rfl := Vals.ref1 rv
  refine callType_codes (Q₁ := fun ob s1 => ob = .ref s.heap.objs.size ∧ s1 = { s with heap := s.heap.push { cls := .type "list", data := .seq #[] } }) PySem.F.called_list (PySem.F.typeCall_list_1 _) PySem.F.entry_list_init
    (code_list_new _ ⟨rfl, rfl⟩) fun ob s1 h1 => ?_
  obtain ⟨z1, z2⟩ := h1
  subst z1
  subst z2
  have hS : (s.heap.push { cls := .type "list", data := .seq #[] }).get? s.heap.objs.size = some { cls := .type "list", data := .seq #[] } := Heap.get?_push_size _ rfl
  have fr : H s.heap.objs.size = none := I.hok.fresh (Nat.le_refl _)
  refine ⟨⟨_, hS, rfl⟩, PySem.F.args_list_init_2 _ _, ?_⟩
  have I1 : L2.Inv X pins σ (upd H s.heap.objs.size (.lst [])) { s with heap := s.heap.push { cls := .type "list", data := .seq #[] } } := I.lnew (its := []) (t' := s.toks) .nil (Nat.zero_le _)
  show wpAny _ _ (Builtin.List.listItems (.ref s.heap.objs.size) >>= fun old => Builtin.List.listUpdate (.ref s.heap.objs.size) (fun _ => #[]) >>= fun _ => letGo old.toList.reverse >>= fun _ => Builtin.List.listExtendWith (.ref s.heap.objs.size) (.ref a) .none) _ _ _
  refine wpAny_bind ?_
  unfold Builtin.List.listItems
  refine wpAny_bind (wpAny_seqItems hS rfl (wpAny_pure ?_))
  refine wpAny_bind ?_
  show wpAny _ _ (updateSeq s.heap.objs.size (fun _ => #[])) _ _ _
  refine wpAny_updateSeq hS rfl (wpAny_bind (wpAny_letGo ?_))
  have I2 := I1.lset (f := fun _ => #[]) (its := []) (its' := []) (ys := []) (t' := s.toks) upd_same hS rfl .nil (Nat.zero_le _)
  rw [upd_upd] at I2
  exact list_fill (A := X.A.in1) (Rs := wants (fun r s2 => r = .none ∧ EP X pins σ Q (.ref s.heap.objs.size) s2) X.xe) F hb hx (Room.in1 (Room.in1 hr)) rfl (I.ok.hd hc) hs hf n1 n2 I2 (by rw [upd_ne (ne_of_none ha fr)]; exact ha) upd_same (hq _ fr)
    (fun H' s' I' q => ⟨rfl, .ref _, H', I', rfl, q⟩) fun e s' he => he
end
end Own
set_option Elab.async false
set_option linter.all false
set_option maxRecDepth 100000
set_option maxHeartbeats 2000000
/-! list(o), o an instance whose own __iter__ returns iter(d), and whose own __len__ tells a number -/
namespace Own
open PySem PySem.Spec PyProof.Rows L2
section
variable {X : Cx} {CX : CXT} {C f g : Addr} {fd gd : FuncData} {ps qs : List Str} {n m : Nat} {sp : Nat → Sp} {sl : Sp} {E : XK}
theorem own_call1 (F : FnOk X.prog X.w X.K X.mg X.base CX0 m g gd qs sl) (hb : L2.Binds X.K gd qs []) {A : Around} (hr : Room m A) (hfr : A.frames = X.A.frames)
    {pins : List (Addr × Obj)} {s : Shared} {σ : L2.St} {H : Hp} {x : V} {u : Value} {R : V → Hp → Prop} (I : L2.Inv X pins σ H s) (rx : L2.RelV x u) (hsp : sl [x] H R E) :
    wpAny (model X.prog X.w) A (call (.ref g) [u]) (fun w s' => ∃ z H', L2.RelV z w ∧ L2.Inv X pins σ H' s' ∧ R z H') (fun _ _ => False) s := by
  have e0 : Env0 X.prog X.w X.K X.mg X.base A X.stack s H := by
    have e := I.env0
    exact ⟨by rw [hfr]; exact e.frames, e.mod, e.bs, e.bsz, e.funs, e.frf, e.hok, e.bare⟩
  have hl := F.len _ _ _ _ hsp
  have r2 : L2.Vals [x] [u] := .cons rx .nil
  refine wpAny_call (codeAny_mono (F.run A X.stack s H ⟨[u], []⟩ [u] [x] R E hr e0 (by
    have := hb s [u] I.kIn (by simpa using hl)
    simpa using this) r2 hsp) fun r s' hq => ?_)
  cases r with
  | error e => exact False.elim hq
  | ok fl =>
    cases fl with
    | ret w =>
      obtain ⟨z, H', I', rz, q⟩ := I.after hq
      exact ⟨z, H', rz, I', q⟩
    | next => exact False.elim hq
    | brk => exact False.elim hq
    | cont => exact False.elim hq
/-- what an own __len__ has to tell -/
def LenTold (H : Hp) : VK := fun v H' => ∃ k : Nat, v = .int k ∧ k ≤ sizeLine ∧ H' = H
theorem len_own (F : FnOk X.prog X.w X.K X.mg X.base CX0 m g gd qs sl) (hb : L2.Binds X.K gd qs []) {A : Around} (hr : Room (m + 1) A) (hfr : A.frames = X.A.frames)
    (hs : PySem.W.findIn X.K (.ref C) "__len__" = some (some (.ref g))) (hf : PySem.W.isFn X.K (.ref g) = true) {pins : List (Addr × Obj)} {s : Shared} {σ : L2.St} {H : Hp} {a dx : Addr} {fs : List (Str × V)} (I : L2.Inv X pins σ H s) (ha : H a = some (.ins C dx fs)) (hsp : sl [.ref a] H (LenTold H) E) :
    wpAny (model X.prog X.w) A (call (.builtin "len") [.ref a]) (fun r s' => ∃ (k : Nat) (t : Tok), k ≤ sizeLine ∧ r = .int k t ∧ L2.Inv X pins σ H s') (fun _ _ => False) s := by
  obtain ⟨mA, J, _⟩ := ins_get I.hok ha
  obtain ⟨od0, J, _⟩ := J.look
  refine Calls.call_function_entry kind_len plain_len entry_len (args_len1 _) ?_
  unfold Builtin.«len»
  refine wpAny_bind (m := oneArg "len" _) (wpAny_pure ?_)
  refine wpAny_bind (m := callSpecial? (.ref a) (PySem.Str.ofString "__len__")) ?_
  unfold callSpecial? specialOf
  refine wpAny_bind (wpAny_bind (J.type.here ((PySem.W.looks_findIn I.kIn hs).here ?_)))
  refine wpAny_holding (wpAny_bind ((PySem.W.bind_fn I.kIn _ (beq_iff_eq.mp hf)).here ?_))
  refine wpAny_bind (wpAny_mono (own_call1 (A := A.in1) F hb (Room.in1 hr) hfr I (x := .ref a) rfl hsp) (fun w s' h => ?_) fun _ _ h => h)
  obtain ⟨z, H', rz, I', k, ez, hk, eH⟩ := h
  subst ez
  subst eH
  obtain ⟨t, rfl⟩ := (show ∃ t, w = Value.int k t from rz)
  have hz : sizeLine = 16777216 := sizeLine_eq
  refine wpAny_pure (wpAny_bind (wpAny_holding (wpAny_pure ?_)))
  refine wpAny_bind (wpAny_letGo ?_)
  show wpAny _ _ (if ((k : Nat) : Int) < 0 then _ else _) _ _ _
  rw [if_neg (by omega)]
  show wpAny _ _ (if ((k : Nat) : Int) ≥ 2 ^ 63 then _ else _) _ _ _
  rw [if_neg (by omega)]
  exact wpAny_bind (wpAny_mkInt (wpAny_pure ⟨_, rfl, _, _, hk, rfl, I'.tok _⟩))
theorem hint_own (F : FnOk X.prog X.w X.K X.mg X.base CX0 m g gd qs sl) (hb : L2.Binds X.K gd qs []) {A : Around} (hr : Room (m + 1) A) (hfr : A.frames = X.A.frames)
    (hs : PySem.W.findIn X.K (.ref C) "__len__" = some (some (.ref g))) (hf : PySem.W.isFn X.K (.ref g) = true) {pins : List (Addr × Obj)} {s : Shared} {σ : L2.St} {H : Hp} {a dx : Addr} {fs : List (Str × V)} (I : L2.Inv X pins σ H s) (ha : H a = some (.ins C dx fs)) (hsp : sl [.ref a] H (LenTold H) E)
    {Q : Bool → Shared → Prop} {Eh : Value → Shared → Prop} (q : ∀ b s', L2.Inv X pins σ H s' → Q b s') : wpAny (model X.prog X.w) A (Builtin.List.listLengthHint (.ref a)) Q Eh s := by
  obtain ⟨mA, J, _⟩ := ins_get I.hok ha
  obtain ⟨od0, J, _⟩ := J.look
  have l1 := PySem.W.looks_findIn (M := model X.prog X.w) I.kIn hs
  unfold Builtin.List.listLengthHint
  refine wpAny_bind (wpAny_bind (J.type.here (l1.here ?_)))
  refine PySem.W.KFB.if_not (by rfl) ?_
  refine wpAny_bind (wpAny_rule (wpAny_bind (wpAny_attempt (wpAny_mono (len_own F hb hr hfr hs hf I ha hsp) (fun r s' h => ?_) fun e s' h => h.elim))))
  obtain ⟨k, t, hk, rfl, I'⟩ := h
  have hz : sizeLine = 16777216 := sizeLine_eq
  refine wpAny_bind (wpAny_pure ?_)
  refine PySem.W.KFB.if_not (by show decide _ = false; exact decide_eq_false (by rw [Int.toNat_natCast]; omega)) ?_
  exact wpAny_pure (q _ _ I')
def ListToldL (C a S : Addr) (sl : Sp) (E : XK) (Q : VK) (m : Nat) : VK := fun v H2 => ∃ it d od kvs, v = V.ref it ∧ H2 it = some (KiO d od it) ∧ H2 d = some (.frz od (.dK kvs)) ∧ H2 S = some (.lst []) ∧ m ≤ it ∧ (∃ dx fs, H2 a = some (.ins C dx fs)) ∧ sl [V.ref a] H2 (LenTold H2) E ∧ Q (.ref S) (upd (ItX.dropH H2 it) S (.lst (kvs.map fun p => kV p.1)))
def rListIL (C : Addr) (sp : Nat → Sp) (sl : Sp) (E : XK) : List V → Hp → VK → Prop := fun xs H Q => ∃ a dx fs, xs = [V.ref a] ∧ H a = some (.ins C dx fs) ∧ ∀ S, H S = none → ∀ m, sp m [.ref a] (upd H S (.lst [])) (ListToldL C a S sl E Q m) E
theorem list_fillL {pins : List (Addr × Obj)} {σ : L2.St} {A : Around} {Rs : Result → Shared → Prop} {S a dx : Addr} {fs : List (Str × V)} {H : Hp} {s : Shared} {Q : VK}
    (F : ∀ base, FnOk X.prog X.w X.K X.mg base CX n f fd ps (sp base.objs.size)) (hb : L2.Binds X.K fd ps []) (hx : Passes CX X E) (hr : Room n A.in1) (hrm : Room (m + 1) A.in1) (hfr : A.in1.frames = X.A.frames) (hh : A.handled = none)
    (hs : PySem.W.findIn X.K (.ref C) "__iter__" = some (some (.ref f))) (hf : PySem.W.isFn X.K (.ref f) = true) (G : FnOk X.prog X.w X.K X.mg X.base CX0 m g gd qs sl) (hgb : L2.Binds X.K gd qs []) (n1 : PySem.W.findIn X.K (.ref C) "__len__" = some (some (.ref g))) (n2 : PySem.W.isFn X.K (.ref g) = true)
    (I : L2.Inv X pins σ H s) (ha : H a = some (.ins C dx fs)) (hS : H S = some (.lst [])) (hsp : ∀ m, sp m [.ref a] H (ListToldL C a S sl E Q m) E)
    (done : ∀ H' s', L2.Inv X pins σ H' s' → Q (.ref S) H' → Rs (.ok (.ret .none)) s') (bad : ∀ e s', X.xe e s' → Rs (.error e) s') :
    wpAny (model X.prog X.w) A.in1 (Builtin.List.listExtendWith (.ref S) (.ref a) .none)
      (fun fin s' => match fin with | .done g => Rs (.ok g) s' | .again c' => c'.quiet = true ∧ codeAny (model X.prog X.w) A c' Rs s') (fun e s' => Rs (.error e) s') s := by
  have neS : S ≠ a := ne_of hS ha (fun z => nomatch z)
  obtain ⟨mA, J, _⟩ := ins_get I.hok ha
  obtain ⟨od0, J, _⟩ := J.look
  have t1 : Builtin.List.listSameRef (.ref S) (.ref a) = false := by simp [Builtin.List.listSameRef, neS]
  have t2 : (Value.ref C == Value.type "list" || Value.ref C == Value.type "tuple") = false := rfl
  unfold Builtin.List.listExtendWith
  refine wpAny_bind (J.type.here ?_)
  rw [t1, Bool.false_or]
  simp only [t2, Bool.false_eq_true, if_false]
  refine wpAny_bind (wpAny_mono (own_it F hb hx hr hfr hs hf (fun m v H2 ⟨it, d, od, kvs, e1, e2, _⟩ => ⟨it, d, od, e1, e2⟩) I ha hsp) (fun u s2 h2 => ?_) bad)
  obtain ⟨it0, H2, eu, I2, it, d, od, kvs, e0, hi, hd, hS2, hz, ⟨dx2, fs2, ha2⟩, hL, hQ⟩ := h2
  subst eu
  have e9 : it = it0 := by cases e0; rfl
  subst e9
  obtain ⟨mB, J2, _⟩ := ins_get I2.hok ha2
  obtain ⟨od2, J2, _⟩ := J2.look
  refine wpAny_bind (wpAny_holding (hint_own G hgb hrm hfr n1 n2 I2 ha2 hL fun b9 s2 I2 => ?_))
  obtain ⟨es, ep, hod, hk⟩ := (show ObjOk X.prog X.w H2 s2.heap it (KiO d od it) from I2.hok it _ hi).1
  obtain ⟨_, _, _, es2, ep2, vs, hdt, hsz, kv, hm⟩ := I2.frzK hd
  obtain ⟨e1, e2⟩ := dict_ep hod hdt
  subst e1
  have nSi : S ≠ it := fun e => by rw [e, hi] at hS2; cases hS2
  have nSd : S ≠ d := fun e => by rw [e, hd] at hS2; cases hS2
  have ndi : d ≠ it := fun e => by rw [e, hi] at hd; cases hd
  have hzk : kvs.length ≤ sizeLine := (dk_rd I2.hok (.inr ⟨od, hd⟩)).1
  have I3 := ItX.inv_drop I2 hi
  have fp := ItX.inv_fp I2 hi (Nat.le_trans I.sz hz)
  have hS3 : ItX.dropH H2 it S = some (.lst []) := (ItX.dropH_ne nSi).trans hS2
  have hd3 : ItX.dropH H2 it d = some (.frz od (.dK kvs)) := (ItX.dropH_ne ndi).trans hd
  generalize ItX.dropH H2 it = H3 at I3 fp hS3 hd3 hQ
  have go : ∀ (s' : Shared), L2.Inv X pins σ H3 s' → s'.heap.IsKeyIter it d 0 kvs.length ep → codeAny (model X.prog X.w) A (.builtin "list.extend.loop" ⟨[.ref S, .ref it, .none], []⟩) Rs s' := fun s' I' st' =>
    key_loop hh hod hzk nSi nSd _ 0 H3 s' rfl (Nat.zero_le _) I' fp hd3 hS3 st' fun s'' I'' => done _ s'' I'' hQ
  rw [hsz] at hk
  obtain ⟨zz, its, cc, r3, ln3, e3⟩ := I3.lstM hS3
  cases r3
  refine wpAny_ite_split (fun _ => ?_) (fun _ => wpAny_pure ⟨plainId_quiet PySem.F.plain_extend_loop _, go s2 I3 hk⟩)
  refine wpAny_bind (wpAny_rule (wpAny_bind ?_))
  show wpAny _ _ (updateSeq S (·.push .none) >>= fun _ => updateSeq S (·.pop)) _ _ _
  refine wpAny_bind (wpAny_updateSeq e3 rfl ?_)
  have J1 := I3.lset (f := (·.push Value.none)) (its' := [Value.none]) (ys := [V.non]) (t' := s2.toks) hS3 e3 (by simp) (.cons rfl .nil) (by rw [List.length_singleton, sizeLine_eq]; decide)
  obtain ⟨z4, its4, c4, r4, ln4, e4⟩ := J1.lstM upd_same
  obtain ⟨u4, rfl, ru4⟩ := r4.one
  refine wpAny_updateSeq e4 rfl (wpAny_pure ⟨plainId_quiet PySem.F.plain_extend_loop _, go _ ?_ ?_⟩) (by show 1 ≤ sizeLine; rw [sizeLine_eq]; decide) (by show 0 ≤ sizeLine + 1; exact Nat.zero_le _)
  · have J2 := J1.lset (f := (·.pop)) (its := [u4]) (its' := []) (ys := []) (t' := s2.toks) upd_same e4 (by rfl) .nil (Nat.zero_le _)
    rw [upd_upd, show upd H3 S (.lst []) = H3 from by
      funext b
      by_cases hb : b = S
      · rw [hb, upd_same, hS3]
      · rw [upd_ne hb]] at J2
    exact J2
  · exact hk.at fun o e => (Heap.get?_update_other _ _ nSi).trans ((Heap.get?_update_other _ _ nSi).trans e)
theorem call_listIL (F : ∀ base, FnOk X.prog X.w X.K X.mg base CX n f fd ps (sp base.objs.size)) (hb : L2.Binds X.K fd ps []) (hx : Passes CX X E) (hc : X.calm = true) (hr : Room (n + 2) X.A) (hrm : Room (m + 3) X.A)
    (hs : PySem.W.findIn X.K (.ref C) "__iter__" = some (some (.ref f))) (hf : PySem.W.isFn X.K (.ref f) = true) (G : FnOk X.prog X.w X.K X.mg X.base CX0 m g gd qs sl) (hgb : L2.Binds X.K gd qs []) (n1 : PySem.W.findIn X.K (.ref C) "__len__" = some (some (.ref g))) (n2 : PySem.W.isFn X.K (.ref g) = true) :
    CallR X (.type "list") (rListIL C sp sl E) := by
  intro pins s σ H xs us Q I rv ⟨a, dx, fs, ex, ha, hq⟩
  subst ex
  obtain rfl := Vals.ref1 rv
  refine callType_codes (Q₁ := fun ob s1 => ob = .ref s.heap.objs.size ∧ s1 = { s with heap := s.heap.push { cls := .type "list", data := .seq #[] } }) PySem.F.called_list (PySem.F.typeCall_list_1 _) PySem.F.entry_list_init
    (code_list_new _ ⟨rfl, rfl⟩) fun ob s1 h1 => ?_
  obtain ⟨z1, z2⟩ := h1
  subst z1
  subst z2
  have hS : (s.heap.push { cls := .type "list", data := .seq #[] }).get? s.heap.objs.size = some { cls := .type "list", data := .seq #[] } := Heap.get?_push_size _ rfl
  have fr : H s.heap.objs.size = none := I.hok.fresh (Nat.le_refl _)
  refine ⟨⟨_, hS, rfl⟩, PySem.F.args_list_init_2 _ _, ?_⟩
  have I1 : L2.Inv X pins σ (upd H s.heap.objs.size (.lst [])) { s with heap := s.heap.push { cls := .type "list", data := .seq #[] } } := I.lnew (its := []) (t' := s.toks) .nil (Nat.zero_le _)
  show wpAny _ _ (Builtin.List.listItems (.ref s.heap.objs.size) >>= fun old => Builtin.List.listUpdate (.ref s.heap.objs.size) (fun _ => #[]) >>= fun _ => letGo old.toList.reverse >>= fun _ => Builtin.List.listExtendWith (.ref s.heap.objs.size) (.ref a) .none) _ _ _
  refine wpAny_bind ?_
  unfold Builtin.List.listItems
  refine wpAny_bind (wpAny_seqItems hS rfl (wpAny_pure ?_))
  refine wpAny_bind ?_
  show wpAny _ _ (updateSeq s.heap.objs.size (fun _ => #[])) _ _ _
  refine wpAny_updateSeq hS rfl (wpAny_bind (wpAny_letGo ?_))
  have I2 := I1.lset (f := fun _ => #[]) (its := []) (its' := []) (ys := []) (t' := s.toks) upd_same hS rfl .nil (Nat.zero_le _)
  rw [upd_upd] at I2
  exact list_fillL (A := X.A.in1) (Rs := wants (fun r s2 => r = .none ∧ EP X pins σ Q (.ref s.heap.objs.size) s2) X.xe) F hb hx (Room.in1 (Room.in1 hr)) (Room.in1 (Room.in1 hrm)) rfl (I.ok.hd hc) hs hf G hgb n1 n2 I2 (by rw [upd_ne (ne_of_none ha fr)]; exact ha) upd_same (hq _ fr)
    (fun H' s' I' q => ⟨rfl, .ref _, H', I', rfl, q⟩) fun e s' he => he
/-- len of a dict, locked or not -/
theorem call_lenRd : CallR X (.builtin "len") (fun xs H Q => ∃ a kvs, xs = [V.ref a] ∧ Rd H a (.dK kvs) ∧ Q (.int kvs.length) H) := by
  rintro pins s σ H xs us Q I r ⟨a, kvs, rfl, ha, q⟩
  obtain ⟨u, rfl, ru⟩ := vals1 r
  cases ru
  exact d_len I ha fun t s' I' => ⟨.int kvs.length, H, I', ⟨t, rfl⟩, q⟩
/-- rules for what stands in a comprehension, K written -/
theorem ixTupOf {K : PySem.W.Frag} (h : X.K = K) : IxR X (rIxT K) := h ▸ ix_tup
theorem fldOf {K : PySem.W.Frag} (h : X.K = K) {e : Expr} {ta : TE} {f : Str} {pos : Pos} (he : PE X e ta) (hb : attributeBase e f X.env (eval e X.env) = eval e X.env) : PE X (.Attribute e f pos) (tFld K ta f) := h ▸ pe_fld he hb
theorem notInSeqOf {K : PySem.W.Frag} (h : X.K = K) : OpR X (compareOp .NotIn) (rIn K true) := h ▸ op_notIn_seq
end
end Own
set_option Elab.async false
set_option linter.all false
set_option maxRecDepth 100000
set_option maxHeartbeats 2000000
/-! a dict that has texts and tuples among its keys -/
namespace Own
open PySem PySem.Spec PyProof.Rows L2
abbrev MK := Str ⊕ List L2.Key
section
variable (P : Program) (w : World)
def mIs (h : Heap) : MK → Value → Prop
  | .inl x, v => ∃ t, v = .str x t
  | .inr ks, v => ∃ a, v = .ref a ∧ (tupleKind (mixKind P w)).is h ks a
def mHash : MK → Int
  | .inl x => (mixKind P w).hash (.inr x)
  | .inr ks => (tupleKind (mixKind P w)).hash ks
def mDraws : MK → Nat
  | .inl _ => 1
  | .inr ks => ks.length + 1
def mEnt (x : MK × Value × Value) : DictEntry := ⟨mHash P w x.1, x.2.1, x.2.2⟩
end
section
variable {P : Program} {w : World} {A : Around} {E : Value → Shared → Prop} {s : Shared} {h : Heap}
theorem mix_str {x : Str} {t : Tok} : (mixKind P w).is (.inr x) (.str x t) = true := kV_is (k := .inr x) (u := .str x t) ⟨t, rfl⟩
theorem mIs_inj {x y : MK} {v : Value} (a : mIs P w h x v) (b : mIs P w h y v) : x = y := by
  cases x with
  | inl x =>
    obtain ⟨t, rfl⟩ := a
    cases y with
    | inl y => obtain ⟨t2, e⟩ := b; injection e with e1 _; rw [e1]
    | inr ys => obtain ⟨a2, e, _⟩ := b; cases e
  | inr xs =>
    obtain ⟨a1, rfl, ha⟩ := a
    cases y with
    | inl y => obtain ⟨t2, e⟩ := b; cases e
    | inr ys =>
      obtain ⟨a2, e, hb⟩ := b
      cases e
      rw [(tupleKind (mixKind P w)).inj ha hb]
theorem mIs_keeps {h' : Heap} {k : MK} {v : Value} {d : Addr} {o : Obj} {es ep} (a : mIs P w h k v) (ho : h.get? d = some o) (hd : o.data = .dict es ep) (hs : Heap.SameBut d h h') : mIs P w h' k v := by
  cases k with
  | inl x => exact a
  | inr ks =>
    obtain ⟨b, rfl, hb⟩ := a
    exact ⟨b, rfl, (tupleKind (mixKind P w)).keeps hb ho hd hs⟩
theorem m_hash {k : MK} {v : Value} {Q : Int → Shared → Prop} (hu : A.units < cLine) (hk : mIs P w s.heap k v) (q : Q (mHash P w k) { s with toks := s.toks + mDraws k }) : wpAny (model P w) A (pyHash v) Q E s := by
  cases k with
  | inl x =>
    obtain ⟨t, rfl⟩ := hk
    exact (mixKind P w).pyHash mix_str q
  | inr ks =>
    obtain ⟨b, rfl, hb⟩ := hk
    exact (tupleKind (mixKind P w)).pyHash hu hb q
theorem tup_at {ks : List L2.Key} {a : Addr} (hk : (tupleKind (mixKind P w)).is s.heap ks a) : ∃ items, s.heap.IsTuple a items := by
  obtain ⟨o, items, n, h1, h2, h3, _⟩ := (show IsTupleKey (mixKind P w) s.heap ks a from hk)
  exact ⟨items, o, h1, h2, n, h3⟩
theorem m_eq {x y : MK} {u v : Value} {Q : Bool → Shared → Prop} (hu : A.units < cLine) (hx : mIs P w s.heap x u) (hy : mIs P w s.heap y v) (q : Q (decide (x = y)) s) : wpAny (model P w) A (eqBool u v) Q E s := by
  cases x with
  | inl x =>
    obtain ⟨t, rfl⟩ := hx
    cases y with
    | inl y =>
      obtain ⟨t2, rfl⟩ := hy
      refine (mixKind P w).eqBool (a := .inr x) (b := .inr y) mix_str mix_str ?_
      have e : decide ((Sum.inr x : L2.Key) = .inr y) = decide ((Sum.inl x : MK) = .inl y) := by
        by_cases e : x = y
        · subst e; rw [decide_eq_true rfl, decide_eq_true rfl]
        · rw [decide_eq_false (fun z => e (Sum.inr.inj z)), decide_eq_false (fun z => e (Sum.inl.inj z))]
      rw [e]; exact q
    | inr ys =>
      obtain ⟨b, rfl, hb⟩ := hy
      obtain ⟨its, hi⟩ := tup_at hb
      exact SeqAt.EqAt.str_tuple x t hi hu P w E Q (by rw [decide_eq_false (fun z => nomatch z)] at q; exact q)
  | inr xs =>
    obtain ⟨a, rfl, ha⟩ := hx
    cases y with
    | inl y =>
      obtain ⟨t2, rfl⟩ := hy
      obtain ⟨its, hi⟩ := tup_at ha
      exact SeqAt.EqAt.tuple_str y t2 hi hu P w E Q (by rw [decide_eq_false (fun z => nomatch z)] at q; exact q)
    | inr ys =>
      obtain ⟨b, rfl, hb⟩ := hy
      refine (tupleKind (mixKind P w)).eqBool hu ha hb ?_
      have e : decide (xs = ys) = decide ((Sum.inr xs : MK) = .inr ys) := by
        by_cases e : xs = ys
        · subst e; rw [decide_eq_true rfl, decide_eq_true rfl]
        · rw [decide_eq_false e, decide_eq_false (fun z => e (Sum.inr.inj z))]
      rw [e]; exact q
theorem m_quiet {k : MK} {v : Value} {Q : Bool → Shared → Prop} (hk : mIs P w s.heap k v) (q : Q true s) : wpAny (model P w) A (eqIsQuiet 8 v) Q E s := by
  cases k with
  | inl x =>
    obtain ⟨t, rfl⟩ := hk
    exact wpAny_pure q
  | inr ks =>
    obtain ⟨b, rfl, hb⟩ := hk
    exact (tupleKind (mixKind P w)).quiet hb q
theorem m_tell {k : MK} {key : Value} {stored : List Value} {Q : Bool → Shared → Prop} (hkey : mIs P w s.heap k key) (hst : ∀ v ∈ stored, ∃ k', mIs P w s.heap k' v) (q : Q false s) : wpAny (model P w) A (tableMayTell key stored) Q E s := by
  unfold tableMayTell
  split
  · exact wpAny_pure q
  · refine wpAny_bind (m_quiet hkey ?_)
    simp only [Bool.not_true, Bool.false_eq_true, if_false]
    refine wpAny_bind ?_
    refine wpAny_forIn_list _ (fun rest r s' => s' = s ∧ r = (none, ()) ∧ ∀ v ∈ rest, ∃ k', mIs P w s.heap k' v) _ ?_ ?_ _ _ ⟨rfl, rfl, hst⟩
    · rintro x rest r s' ⟨rfl, rfl, hr⟩
      obtain ⟨k', hb⟩ := hr x List.mem_cons_self
      refine wpAny_bind (m_quiet hb ?_)
      simp only [Bool.not_true, Bool.false_eq_true, if_false]
      exact wpAny_pure ⟨rfl, rfl, fun v hv => hr v (List.mem_cons_of_mem _ hv)⟩
    · rintro r s' ⟨rfl, rfl, _⟩
      exact wpAny_pure q
/-! ### the entries -/
theorem ent_at {es : Array DictEntry} {xs : List (MK × Value × Value)} (he : es.toList = xs.map (mEnt P w)) (j : Nat) : es[j]? = (xs[j]?).map (mEnt P w) := by
  rw [← Array.getElem?_toList, he, List.getElem?_map]
theorem ent_size {es : Array DictEntry} {xs : List (MK × Value × Value)} (he : es.toList = xs.map (mEnt P w)) : es.size = xs.length := by
  rw [← Array.length_toList, he, List.length_map]
theorem ent_uniq {xs : List (MK × Value × Value)} (hn : (xs.map (·.1)).Nodup) {i j : Nat} {k : MK} {p q : Value × Value} (hi : xs[i]? = some (k, p)) (hj : xs[j]? = some (k, q)) : i = j := by
  have e1 : (xs.map (·.1))[i]? = some k := by rw [List.getElem?_map, hi]; rfl
  have e2 : (xs.map (·.1))[j]? = some k := by rw [List.getElem?_map, hj]; rfl
  obtain ⟨h1, z1⟩ := List.getElem?_eq_some_iff.mp e1
  obtain ⟨h2, z2⟩ := List.getElem?_eq_some_iff.mp e2
  exact (List.getElem_inj hn).mp (z1.trans z2.symm)
theorem ent_mem {es : Array DictEntry} {xs : List (MK × Value × Value)} (he : es.toList = xs.map (mEnt P w)) {e : DictEntry} (m : e ∈ es) : ∃ x ∈ xs, mEnt P w x = e := by
  have : e ∈ xs.map (mEnt P w) := he ▸ Array.mem_toList_iff.mpr m
  exact List.mem_map.mp this
/-- all texts: the library's own way -/
theorem find_strs {d : Addr} {o : Obj} {es ep} {xs : List (MK × Value × Value)} {x : Str} {t : Tok} {Q : Option Nat → Shared → Prop} (ho : s.heap.get? d = some o) (hd : o.data = .dict es ep) (he : es.toList = xs.map (mEnt P w)) (his : ∀ y ∈ xs, mIs P w s.heap y.1 y.2.1) (hs : ∀ y ∈ xs, ∃ z, y.1 = .inl z)
    (hnone : (∀ (j : Nat) (p : Value × Value), xs[j]? ≠ some (.inl x, p)) → Q none s) (hsome : ∀ (j : Nat) (p : Value × Value), xs[j]? = some (.inl x, p) → Q (some j) s) :
    wpAny (model P w) A (dictFind d (.str x t) (mHash P w (.inl x))) Q E s := by
  refine wpAny_dictFind_of (knd := mixKind P w) (k := .inr x) mix_str ho hd (fun e m => ?_) ?_
  · obtain ⟨y, hy, rfl⟩ := ent_mem he m
    obtain ⟨z, ez⟩ := hs y hy
    obtain ⟨k, v, u⟩ := y
    cases ez
    obtain ⟨t2, e2⟩ := his _ hy
    exact ⟨.inr z, by show (mixKind P w).is (.inr z) v = true; rw [show v = .str z t2 from e2]; exact mix_str, rfl⟩
  · have at_ : ∀ (j : Nat) (hj : j < es.size), ((mixKind P w).is (.inr x) es[j].key = true ↔ ∃ p, xs[j]? = some (.inl x, p)) := fun j hj => by
      have e1 := ent_at he j
      have hj2 : j < xs.length := by rw [← ent_size he]; exact hj
      rw [Array.getElem?_eq_getElem hj, List.getElem?_eq_getElem hj2] at e1
      have e2 : es[j] = mEnt P w xs[j] := Option.some.inj e1
      obtain ⟨z, ez⟩ := hs _ (List.getElem_mem hj2)
      obtain ⟨t2, e3⟩ := (show mIs P w s.heap (.inl z) xs[j].2.1 from ez ▸ his _ (List.getElem_mem hj2))
      rw [e2, List.getElem?_eq_getElem hj2]
      constructor
      · intro q
        have q2 : (mixKind P w).is (.inr x) (.str z t2) = true := by rw [← e3]; exact q
        have := (mixKind P w).inj _ _ _ q2 (mix_str (x := z) (t := t2))
        cases this
        exact ⟨xs[j].2, by rw [← ez]⟩
      · rintro ⟨p, q⟩
        have q3 : xs[j] = (.inl x, p) := Option.some.inj q
        have : z = x := by rw [q3] at ez; cases ez; rfl
        subst this
        show (mixKind P w).is (.inr z) xs[j].2.1 = true
        rw [e3]; exact mix_str
    cases hf : es.findIdx? (fun e => (mixKind P w).is (.inr x) e.key) with
    | none =>
      refine hnone fun j p hj => ?_
      have hj1 : j < es.size := by rw [ent_size he]; exact (List.getElem?_eq_some_iff.mp hj).1
      have := Array.findIdx?_eq_none_iff.mp hf es[j] (Array.getElem_mem hj1)
      rw [(at_ j hj1).mpr ⟨p, hj⟩] at this
      cases this
    | some i =>
      obtain ⟨hlt, hi, _⟩ := Array.findIdx?_eq_some_iff_getElem.mp hf
      obtain ⟨p, hp⟩ := (at_ i hlt).mp hi
      exact hsome i p hp
/-- where a lookup stands -/
def Hit (xs : List (MK × Value × Value)) (k : MK) (i : Nat) (hit : Option Nat) : Prop := (hit = none ∧ ∀ j p, j < i → xs[j]? ≠ some (k, p)) ∨ ∃ j p, hit = some j ∧ j < i ∧ xs[j]? = some (k, p)
theorem Hit.fresh {xs : List (MK × Value × Value)} {k : MK} {i : Nat} {hit : Option Nat} {p : Value × Value} (h : Hit xs k i hit) (hn : (xs.map (·.1)).Nodup) (hi : xs[i]? = some (k, p)) : hit = none := by
  rcases h with ⟨e, _⟩ | ⟨j, q, _, hj, e⟩
  · exact e
  · have := ent_uniq hn e hi
    omega
theorem Hit.pass {xs : List (MK × Value × Value)} {k k' : MK} {i : Nat} {hit : Option Nat} {p : Value × Value} (h : Hit xs k i hit) (hi : xs[i]? = some (k', p)) (ne : ¬ k' = k) : Hit xs k (i + 1) hit := by
  rcases h with ⟨e, hno⟩ | ⟨j, q, e, hj, e2⟩
  · refine .inl ⟨e, fun j q hj e2 => ?_⟩
    rcases Nat.lt_or_ge j i with lt | ge
    · exact hno j q lt e2
    · have : j = i := by omega
      subst this
      rw [hi] at e2
      exact ne (congrArg Prod.fst (Option.some.inj e2))
  · exact .inr ⟨j, q, e, by omega, e2⟩
theorem walk_step {es : Array DictEntry} {xs : List (MK × Value × Value)} {k : MK} {y : Nat} {rest : List Nat} {i : Nat} {hit : Option Nat} (he : es.toList = xs.map (mEnt P w)) (haskey : ∀ (j : Nat) (p : Value × Value), xs[j]? = some (k, p) → ((es[j]?.map (·.hash)) == some (mHash P w k)) = true)
    (hr : y :: rest = (List.range' i (es.size - i)).filter (fun i => (es[i]?.map (·.hash)) == some (mHash P w k))) (hi : i ≤ es.size) (hH : Hit xs k i hit) :
    y < es.size ∧ rest = (List.range' (y + 1) (es.size - (y + 1))).filter (fun i => (es[i]?.map (·.hash)) == some (mHash P w k)) ∧ ∃ (k' : MK) (v u : Value), xs[y]? = some (k', v, u) ∧ es[y]? = some ⟨mHash P w k', v, u⟩ ∧ Hit xs k y hit := by
  obtain ⟨hix, hxn, hpx, hskip, hrest⟩ := filter_range'_cons _ _ _ _ _ hr.symm
  have hlt : y < es.size := by omega
  have hlx : y < xs.length := by rw [← ent_size he]; exact hlt
  refine ⟨hlt, by rw [hrest]; congr 2; omega, xs[y].1, xs[y].2.1, xs[y].2.2, List.getElem?_eq_getElem hlx, ?_, ?_⟩
  · rw [ent_at he y, List.getElem?_eq_getElem hlx]; rfl
  · rcases hH with ⟨e, hno⟩ | ⟨j, q, e, hj, e2⟩
    · refine .inl ⟨e, fun j q hj e2 => ?_⟩
      rcases Nat.lt_or_ge j i with lt | ge
      · exact hno j q lt e2
      · have := hskip j ge hj
        rw [haskey j q e2] at this
        cases this
    · exact .inr ⟨j, q, e, by omega, e2⟩
theorem walk_end {es : Array DictEntry} {xs : List (MK × Value × Value)} {k : MK} {i : Nat} {hit : Option Nat} (he : es.toList = xs.map (mEnt P w)) (haskey : ∀ (j : Nat) (p : Value × Value), xs[j]? = some (k, p) → ((es[j]?.map (·.hash)) == some (mHash P w k)) = true)
    (hr : [] = (List.range' i (es.size - i)).filter (fun i => (es[i]?.map (·.hash)) == some (mHash P w k))) (hi : i ≤ es.size) (hH : Hit xs k i hit) :
    (hit = none ∧ ∀ (j : Nat) (p : Value × Value), xs[j]? ≠ some (k, p)) ∨ ∃ j p, hit = some j ∧ xs[j]? = some (k, p) := by
  rcases hH with ⟨e, hno⟩ | ⟨j, q, e, _, e2⟩
  · refine .inl ⟨e, fun j p hj => ?_⟩
    rcases Nat.lt_or_ge j i with lt | ge
    · exact hno j p lt hj
    · have hj1 : j < es.size := by rw [ent_size he]; exact (List.getElem?_eq_some_iff.mp hj).1
      have := List.filter_eq_nil_iff.mp hr.symm j (List.mem_range'_1.mpr ⟨ge, by omega⟩)
      rw [haskey j p hj] at this
      exact this rfl
  · exact .inr ⟨j, q, e, e2⟩
theorem m_find {d : Addr} {o : Obj} {es ep} {xs : List (MK × Value × Value)} {k : MK} {key : Value} {Q : Option Nat → Shared → Prop} (hu : A.units < cLine) (hkey : mIs P w s.heap k key) (ho : s.heap.get? d = some o) (hd : o.data = .dict es ep) (he : es.toList = xs.map (mEnt P w)) (his : ∀ y ∈ xs, mIs P w s.heap y.1 y.2.1) (hn : (xs.map (·.1)).Nodup)
    (hnone : (∀ (j : Nat) (p : Value × Value), xs[j]? ≠ some (k, p)) → Q none s) (hsome : ∀ (j : Nat) (p : Value × Value), xs[j]? = some (k, p) → Q (some j) s) :
    wpAny (model P w) A (dictFind d key (mHash P w k)) Q E s := by
  have hsz : es.size = xs.length := ent_size he
  have haskey : ∀ (j : Nat) (p : Value × Value), xs[j]? = some (k, p) → ((es[j]?.map (·.hash)) == some (mHash P w k)) = true := by
    intro j p hj
    rw [ent_at he j, hj]
    simp [mEnt]
  have hst : ∀ v ∈ (placesWithHash es.size (fun i => es[i]?.map (·.hash)) (mHash P w k)).filterMap (fun i => es[i]?.map (·.key)), ∃ k', mIs P w s.heap k' v := by
    intro v hv
    obtain ⟨i, _, hi⟩ := List.mem_filterMap.mp hv
    cases hei : es[i]? with
    | none => rw [hei] at hi; cases hi
    | some e =>
      rw [hei] at hi
      obtain rfl : e.key = v := by simpa using hi
      obtain ⟨x, hx, rfl⟩ := ent_mem he (Array.mem_of_getElem? hei)
      exact ⟨x.1, his x hx⟩
  cases k with
  | inl x =>
    obtain ⟨t, rfl⟩ := id hkey
    by_cases hall : ∀ y ∈ xs, ∃ z, y.1 = .inl z
    · exact find_strs ho hd he his hall hnone hsome
    · have hns : ¬ (es.all fun e => isExactStrKey e.key) = true := fun z => hall fun y hy => by
        have m : mEnt P w y ∈ es := Array.mem_toList_iff.mp (he ▸ List.mem_map.mpr ⟨y, hy, rfl⟩)
        have q := Array.all_eq_true_iff_forall_mem.mp z _ m
        obtain ⟨k, v, u⟩ := y
        cases k with
        | inl z => exact ⟨z, rfl⟩
        | inr ks =>
          obtain ⟨a, e, _⟩ := (show mIs P w s.heap (.inr ks) v from his _ hy)
          subst e
          cases q
      unfold dictFind
      try with_reducible refine wpAny_holding ?_
      refine wpAny_bind (wpAny_dictEntries ho hd ?_)
      dsimp only
      rw [if_neg hns]
      by_cases hv : ((Value.str x t :: (placesWithHash es.size (fun i => es[i]?.map (·.hash)) (mHash P w (.inl x))).filterMap (fun i => es[i]?.map (·.key))).all carriedByValue) = true
      · rw [if_pos hv]
        refine wpAny_bind ?_
        refine wpAny_forIn_list _
          (fun rest b s' => s' = s ∧ b = (none, ()) ∧ ∃ i, rest = (List.range' i (es.size - i)).filter (fun i => (es[i]?.map (·.hash)) == some (mHash P w (.inl x))) ∧ i ≤ es.size ∧ Hit xs (.inl x) i none) _ ?_ ?_ _ _
          ⟨rfl, rfl, 0, by rw [placesWithHash, List.range_eq_range', Nat.sub_zero], Nat.zero_le _, .inl ⟨rfl, fun _ _ z => absurd z (Nat.not_lt_zero _)⟩⟩
        · rintro y rest b s' ⟨rfl, rfl, i, hr, hi, hH⟩
          obtain ⟨hlt, hr2, k', v', u', hkv, hex, hHy⟩ := walk_step he haskey hr hi hH
          have hib : mIs P w s'.heap k' v' := his _ (List.mem_of_getElem? hkv)
          rw [hex]
          dsimp only
          by_cases hh : (mHash P w k' == mHash P w (.inl x)) = true
          · rw [if_pos hh]
            refine wpAny_bind (wpAny_dictEpoch ho hd (wpAny_bind (m_eq (x := k') (y := .inl x) hu hib hkey (wpAny_bind (wpAny_dictEpoch ho hd ?_)))))
            show wpAny _ _ (if (ep != ep) = true then _ else _) _ E _
            rw [if_neg (by simp)]
            by_cases hkk : k' = .inl x
            · rw [decide_eq_true hkk]
              subst hkk
              exact wpAny_bind (wpAny_rule (wpAny_pure (wpAny_pure (hsome y _ hkv))))
            · rw [decide_eq_false hkk]
              exact wpAny_bind (wpAny_rule (wpAny_pure ⟨rfl, rfl, y + 1, hr2, hlt, hHy.pass hkv hkk⟩))
          · rw [if_neg hh]
            refine wpAny_pure ⟨rfl, rfl, y + 1, hr2, hlt, hHy.pass hkv ?_⟩
            intro hkk
            rw [hkk] at hh; simp at hh
        · rintro b s' ⟨rfl, rfl, i, hr, hi, hH⟩
          rcases walk_end he haskey hr hi hH with ⟨_, hno⟩ | ⟨j, p, e, hj⟩
          · exact wpAny_pure (hnone hno)
          · cases e
      · rw [if_neg hv]
        by_cases hone : (((placesWithHash es.size (fun i => es[i]?.map (·.hash)) (mHash P w (.inl x))).filterMap (fun i => es[i]?.map (·.key))) == [Value.str x t]) = true
        · rw [if_pos hone]
          refine wpAny_bind (wpAny_pure ?_)
          rw [if_neg (by simp)]
          refine wpAny_bind ?_
          refine wpAny_forIn_list _
            (fun rest b s' => s' = s ∧ ∃ i hit, b = (none, hit) ∧ rest = (List.range' i (es.size - i)).filter (fun i => (es[i]?.map (·.hash)) == some (mHash P w (.inl x))) ∧ i ≤ es.size ∧ Hit xs (.inl x) i hit) _ ?_ ?_ _ _
            ⟨rfl, 0, none, rfl, by rw [placesWithHash, List.range_eq_range', Nat.sub_zero], Nat.zero_le _, .inl ⟨rfl, fun _ _ z => absurd z (Nat.not_lt_zero _)⟩⟩
          · rintro y rest b s' ⟨rfl, i, hit, rfl, hr, hi, hH⟩
            obtain ⟨hlt, hr2, k', v', u', hkv, hex, hHy⟩ := walk_step he haskey hr hi hH
            have hib : mIs P w s'.heap k' v' := his _ (List.mem_of_getElem? hkv)
            rw [hex]
            dsimp only
            by_cases hh : (mHash P w k' == mHash P w (.inl x)) = true
            · rw [if_pos hh]
              refine wpAny_bind (wpAny_dictEpoch ho hd (wpAny_bind (m_eq (x := k') (y := .inl x) hu hib hkey (wpAny_bind (wpAny_dictEpoch ho hd ?_)))))
              show wpAny _ _ (if (ep != ep) = true then _ else _) _ E _
              rw [if_neg (by simp)]
              by_cases hkk : k' = .inl x
              · rw [decide_eq_true hkk]
                subst hkk
                have hno := hHy.fresh hn hkv
                subst hno
                first | rw [if_pos rfl] | skip
                simp only [Option.isSome_none, Bool.false_eq_true, if_false]
                first | refine wpAny_bind (wpAny_pure ?_) | skip
                refine wpAny_bind (wpAny_rule ?_)
                split
                · exact wpAny_pure (wpAny_pure (hsome y _ hkv))
                · exact wpAny_pure ⟨rfl, y + 1, some y, rfl, hr2, hlt, .inr ⟨y, _, rfl, Nat.lt_succ_self y, hkv⟩⟩
              · rw [decide_eq_false hkk]
                simp only [Bool.false_eq_true, if_false]
                refine wpAny_bind (wpAny_rule ?_)
                first | rw [if_neg (by simp)] | skip
                first
                  | exact wpAny_pure ⟨rfl, y + 1, hit, rfl, hr2, hlt, hHy.pass hkv hkk⟩
                  | exact wpAny_bind (wpAny_pure (wpAny_pure ⟨rfl, y + 1, hit, rfl, hr2, hlt, hHy.pass hkv hkk⟩))
            · rw [if_neg hh]
              refine wpAny_pure ⟨rfl, y + 1, hit, rfl, hr2, hlt, hHy.pass hkv ?_⟩
              intro hkk
              rw [hkk] at hh; simp at hh
          · rintro b s' ⟨rfl, i, hit, rfl, hr, hi, hH⟩
            rcases walk_end he haskey hr hi hH with ⟨rfl, hno⟩ | ⟨j, p, rfl, hj⟩
            · exact wpAny_pure (hnone hno)
            · exact wpAny_pure (hsome j p hj)
        · rw [if_neg hone]
          refine wpAny_bind (m_tell hkey hst ?_)
          rw [if_neg (by simp)]
          refine wpAny_bind ?_
          refine wpAny_forIn_list _
            (fun rest b s' => s' = s ∧ ∃ i hit, b = (none, hit) ∧ rest = (List.range' i (es.size - i)).filter (fun i => (es[i]?.map (·.hash)) == some (mHash P w (.inl x))) ∧ i ≤ es.size ∧ Hit xs (.inl x) i hit) _ ?_ ?_ _ _
            ⟨rfl, 0, none, rfl, by rw [placesWithHash, List.range_eq_range', Nat.sub_zero], Nat.zero_le _, .inl ⟨rfl, fun _ _ z => absurd z (Nat.not_lt_zero _)⟩⟩
          · rintro y rest b s' ⟨rfl, i, hit, rfl, hr, hi, hH⟩
            obtain ⟨hlt, hr2, k', v', u', hkv, hex, hHy⟩ := walk_step he haskey hr hi hH
            have hib : mIs P w s'.heap k' v' := his _ (List.mem_of_getElem? hkv)
            rw [hex]
            dsimp only
            by_cases hh : (mHash P w k' == mHash P w (.inl x)) = true
            · rw [if_pos hh]
              refine wpAny_bind (wpAny_dictEpoch ho hd (wpAny_bind (m_eq (x := k') (y := .inl x) hu hib hkey (wpAny_bind (wpAny_dictEpoch ho hd ?_)))))
              show wpAny _ _ (if (ep != ep) = true then _ else _) _ E _
              rw [if_neg (by simp)]
              by_cases hkk : k' = .inl x
              · rw [decide_eq_true hkk]
                subst hkk
                have hno := hHy.fresh hn hkv
                subst hno
                first | rw [if_pos rfl] | skip
                simp only [Option.isSome_none, Bool.false_eq_true, if_false]
                first | refine wpAny_bind (wpAny_pure ?_) | skip
                refine wpAny_bind (wpAny_rule ?_)
                split
                · exact wpAny_pure (wpAny_pure (hsome y _ hkv))
                · exact wpAny_pure ⟨rfl, y + 1, some y, rfl, hr2, hlt, .inr ⟨y, _, rfl, Nat.lt_succ_self y, hkv⟩⟩
              · rw [decide_eq_false hkk]
                simp only [Bool.false_eq_true, if_false]
                refine wpAny_bind (wpAny_rule ?_)
                first | rw [if_neg (by simp)] | skip
                first
                  | exact wpAny_pure ⟨rfl, y + 1, hit, rfl, hr2, hlt, hHy.pass hkv hkk⟩
                  | exact wpAny_bind (wpAny_pure (wpAny_pure ⟨rfl, y + 1, hit, rfl, hr2, hlt, hHy.pass hkv hkk⟩))
            · rw [if_neg hh]
              refine wpAny_pure ⟨rfl, y + 1, hit, rfl, hr2, hlt, hHy.pass hkv ?_⟩
              intro hkk
              rw [hkk] at hh; simp at hh
          · rintro b s' ⟨rfl, i, hit, rfl, hr, hi, hH⟩
            rcases walk_end he haskey hr hi hH with ⟨rfl, hno⟩ | ⟨j, p, rfl, hj⟩
            · exact wpAny_pure (hnone hno)
            · exact wpAny_pure (hsome j p hj)
  | inr ks =>
    obtain ⟨a, rfl, hka⟩ := id hkey
    have hany : ¬ (es.any fun e => e.key == Value.ref a && e.hash != mHash P w (.inr ks)) = true := by
      intro z
      rw [← Array.any_toList, List.any_eq_true] at z
      obtain ⟨e, hin, hc⟩ := z
      obtain ⟨y, hy, rfl⟩ := ent_mem he (Array.mem_toList_iff.mp hin)
      simp only [mEnt, Bool.and_eq_true, beq_iff_eq, bne_iff_ne, ne_eq] at hc
      have q := his y hy
      rw [hc.1] at q
      exact hc.2 (by rw [mIs_inj q hkey])
    unfold dictFind
    try with_reducible refine wpAny_holding ?_
    refine wpAny_bind (wpAny_dictEntries ho hd ?_)
    dsimp only
    rw [if_neg (show ¬ ((Value.ref a :: (placesWithHash es.size (fun i => es[i]?.map (·.hash)) (mHash P w (.inr ks))).filterMap (fun i => es[i]?.map (·.key))).all carriedByValue) = true by simp [carriedByValue])]
    rw [if_neg hany]
    by_cases hone : (((placesWithHash es.size (fun i => es[i]?.map (·.hash)) (mHash P w (.inr ks))).filterMap (fun i => es[i]?.map (·.key))) == [Value.ref a]) = true
    · rw [if_pos hone]
      refine wpAny_bind (wpAny_pure ?_)
      rw [if_neg (by simp)]
      refine wpAny_bind ?_
      refine wpAny_forIn_list _
        (fun rest b s' => s' = s ∧ ∃ i hit, b = (none, hit) ∧ rest = (List.range' i (es.size - i)).filter (fun i => (es[i]?.map (·.hash)) == some (mHash P w (.inr ks))) ∧ i ≤ es.size ∧ Hit xs (.inr ks) i hit) _ ?_ ?_ _ _
        ⟨rfl, 0, none, rfl, by rw [placesWithHash, List.range_eq_range', Nat.sub_zero], Nat.zero_le _, .inl ⟨rfl, fun _ _ z => absurd z (Nat.not_lt_zero _)⟩⟩
      · rintro y rest b s' ⟨rfl, i, hit, rfl, hr, hi, hH⟩
        obtain ⟨hlt, hr2, k', v', u', hkv, hex, hHy⟩ := walk_step he haskey hr hi hH
        have hib : mIs P w s'.heap k' v' := his _ (List.mem_of_getElem? hkv)
        rw [hex]
        dsimp only
        by_cases hh : (mHash P w k' == mHash P w (.inr ks)) = true
        · rw [if_pos hh]
          refine wpAny_bind (wpAny_dictEpoch ho hd (wpAny_bind (m_eq (x := k') (y := .inr ks) hu hib hkey (wpAny_bind (wpAny_dictEpoch ho hd ?_)))))
          show wpAny _ _ (if (ep != ep) = true then _ else _) _ E _
          rw [if_neg (by simp)]
          by_cases hkk : k' = .inr ks
          · rw [decide_eq_true hkk]
            subst hkk
            have hno := hHy.fresh hn hkv
            subst hno
            first | rw [if_pos rfl] | skip
            simp only [Option.isSome_none, Bool.false_eq_true, if_false]
            first | refine wpAny_bind (wpAny_pure ?_) | skip
            refine wpAny_bind (wpAny_rule ?_)
            split
            · exact wpAny_pure (wpAny_pure (hsome y _ hkv))
            · exact wpAny_pure ⟨rfl, y + 1, some y, rfl, hr2, hlt, .inr ⟨y, _, rfl, Nat.lt_succ_self y, hkv⟩⟩
          · rw [decide_eq_false hkk]
            simp only [Bool.false_eq_true, if_false]
            refine wpAny_bind (wpAny_rule ?_)
            first | rw [if_neg (by simp)] | skip
            first
              | exact wpAny_pure ⟨rfl, y + 1, hit, rfl, hr2, hlt, hHy.pass hkv hkk⟩
              | exact wpAny_bind (wpAny_pure (wpAny_pure ⟨rfl, y + 1, hit, rfl, hr2, hlt, hHy.pass hkv hkk⟩))
        · rw [if_neg hh]
          refine wpAny_pure ⟨rfl, y + 1, hit, rfl, hr2, hlt, hHy.pass hkv ?_⟩
          intro hkk
          rw [hkk] at hh; simp at hh
      · rintro b s' ⟨rfl, i, hit, rfl, hr, hi, hH⟩
        rcases walk_end he haskey hr hi hH with ⟨rfl, hno⟩ | ⟨j, p, rfl, hj⟩
        · exact wpAny_pure (hnone hno)
        · exact wpAny_pure (hsome j p hj)
    · rw [if_neg hone]
      refine wpAny_bind (m_tell hkey hst ?_)
      rw [if_neg (by simp)]
      refine wpAny_bind ?_
      refine wpAny_forIn_list _
        (fun rest b s' => s' = s ∧ ∃ i hit, b = (none, hit) ∧ rest = (List.range' i (es.size - i)).filter (fun i => (es[i]?.map (·.hash)) == some (mHash P w (.inr ks))) ∧ i ≤ es.size ∧ Hit xs (.inr ks) i hit) _ ?_ ?_ _ _
        ⟨rfl, 0, none, rfl, by rw [placesWithHash, List.range_eq_range', Nat.sub_zero], Nat.zero_le _, .inl ⟨rfl, fun _ _ z => absurd z (Nat.not_lt_zero _)⟩⟩
      · rintro y rest b s' ⟨rfl, i, hit, rfl, hr, hi, hH⟩
        obtain ⟨hlt, hr2, k', v', u', hkv, hex, hHy⟩ := walk_step he haskey hr hi hH
        have hib : mIs P w s'.heap k' v' := his _ (List.mem_of_getElem? hkv)
        rw [hex]
        dsimp only
        by_cases hh : (mHash P w k' == mHash P w (.inr ks)) = true
        · rw [if_pos hh]
          refine wpAny_bind (wpAny_dictEpoch ho hd (wpAny_bind (m_eq (x := k') (y := .inr ks) hu hib hkey (wpAny_bind (wpAny_dictEpoch ho hd ?_)))))
          show wpAny _ _ (if (ep != ep) = true then _ else _) _ E _
          rw [if_neg (by simp)]
          by_cases hkk : k' = .inr ks
          · rw [decide_eq_true hkk]
            subst hkk
            have hno := hHy.fresh hn hkv
            subst hno
            first | rw [if_pos rfl] | skip
            simp only [Option.isSome_none, Bool.false_eq_true, if_false]
            first | refine wpAny_bind (wpAny_pure ?_) | skip
            refine wpAny_bind (wpAny_rule ?_)
            split
            · exact wpAny_pure (wpAny_pure (hsome y _ hkv))
            · exact wpAny_pure ⟨rfl, y + 1, some y, rfl, hr2, hlt, .inr ⟨y, _, rfl, Nat.lt_succ_self y, hkv⟩⟩
          · rw [decide_eq_false hkk]
            simp only [Bool.false_eq_true, if_false]
            refine wpAny_bind (wpAny_rule ?_)
            first | rw [if_neg (by simp)] | skip
            first
              | exact wpAny_pure ⟨rfl, y + 1, hit, rfl, hr2, hlt, hHy.pass hkv hkk⟩
              | exact wpAny_bind (wpAny_pure (wpAny_pure ⟨rfl, y + 1, hit, rfl, hr2, hlt, hHy.pass hkv hkk⟩))
        · rw [if_neg hh]
          refine wpAny_pure ⟨rfl, y + 1, hit, rfl, hr2, hlt, hHy.pass hkv ?_⟩
          intro hkk
          rw [hkk] at hh; simp at hh
      · rintro b s' ⟨rfl, i, hit, rfl, hr, hi, hH⟩
        rcases walk_end he haskey hr hi hH with ⟨rfl, hno⟩ | ⟨j, p, rfl, hj⟩
        · exact wpAny_pure (hnone hno)
        · exact wpAny_pure (hsome j p hj)
end
end Own
set_option Elab.async false
set_option linter.all false
set_option maxRecDepth 100000
set_option maxHeartbeats 2000000
/-! a dict with texts and tuples among its keys: read and written -/
namespace Own
open PySem PySem.Spec PyProof.Rows L2
section
variable (P : Program) (w : World)
structure MD (h : Heap) (d : Addr) (xs : List (MK × Value × Value)) : Prop where
  ex : ∃ o es ep, h.get? d = some o ∧ o.ExactDict ∧ o.data = .dict es ep ∧ es.toList = xs.map (mEnt P w)
  is : ∀ y ∈ xs, mIs P w h y.1 y.2.1
  nd : (xs.map (·.1)).Nodup
end
section
variable {P : Program} {w : World} {A : Around} {E : Value → Shared → Prop} {s : Shared} {d : Addr} {xs : List (MK × Value × Value)} {k : MK} {key : Value}
theorem MD.typeIs (hm : MD P w s.heap d xs) : s.TypeIs (.ref d) "dict" := by
  obtain ⟨o, _, _, ho, hc, _⟩ := hm.ex
  exact ⟨o, ho, hc.1⟩
theorem m_get {Q : Option Value → Shared → Prop} (hu : A.units < cLine) (hkey : mIs P w s.heap k key) (hm : MD P w s.heap d xs)
    (hno : (∀ (j : Nat) (p : Value × Value), xs[j]? ≠ some (k, p)) → Q none { s with toks := s.toks + mDraws k }) (hyes : ∀ (j : Nat) (p : Value × Value), xs[j]? = some (k, p) → Q (some p.2) { s with toks := s.toks + mDraws k }) : wpAny (model P w) A (dictGet d key) Q E s := by
  obtain ⟨o, es, ep, ho, _, hd, he⟩ := hm.ex
  unfold dictGet
  try with_reducible refine wpAny_holding ?_
  refine wpAny_bind (m_hash hu hkey (wpAny_bind (m_find (s := { s with toks := s.toks + mDraws k }) hu hkey ho hd he hm.is hm.nd (fun z => ?_) fun j p hj => ?_)))
  · exact wpAny_pure (hno z)
  · refine wpAny_bind (wpAny_dictEntries (s := { s with toks := s.toks + mDraws k }) ho hd ?_)
    rw [ent_at he j, hj]
    exact wpAny_pure (hyes j p hj)
theorem m_set {v : Value} {Q : Unit → Shared → Prop} (hu : A.units < cLine) (hkey : mIs P w s.heap k key) (hm : MD P w s.heap d xs) (hsz : xs.length ≤ sizeLine)
    (hnew : (∀ (j : Nat) (p : Value × Value), xs[j]? ≠ some (k, p)) → ∀ h', MD P w h' d (xs ++ [(k, key, v)]) → Heap.SameBut d s.heap h' → Q () { s with heap := h', toks := s.toks + mDraws k })
    (hold : ∀ (j : Nat) (p : Value × Value), xs[j]? = some (k, p) → ∀ h', MD P w h' d (xs.modify j fun y => (y.1, y.2.1, v)) → Heap.SameBut d s.heap h' → Q () { s with heap := h', toks := s.toks + mDraws k }) :
    wpAny (model P w) A (dictSet d key v) Q E s := by
  obtain ⟨o, es, ep, ho, hc, hd, he⟩ := hm.ex
  unfold dictSet
  try with_reducible refine wpAny_holding ?_
  refine wpAny_bind (m_hash hu hkey ?_)
  unfold dictSetHashed
  try with_reducible refine wpAny_holding ?_
  refine wpAny_bind (m_find (s := { s with toks := s.toks + mDraws k }) hu hkey ho hd he hm.is hm.nd (fun hno => ?_) fun j p hj => ?_)
  · have hnot : k ∉ xs.map (·.1) := fun m => by
      obtain ⟨y, hy, e⟩ := List.mem_map.mp m
      obtain ⟨j, hj, ej⟩ := List.getElem_of_mem hy
      exact hno j y.2 (by rw [List.getElem?_eq_getElem hj, ej, ← e])
    refine wpAny_bind (wpAny_rule (wpAny_updateDictKeys (hz := by have e := ent_size he; omega) (s := { s with toks := s.toks + mDraws k }) ho hd (hnew hno _ ⟨⟨_, _, ep + 1, Heap.get?_update_self _ ho (Obj.isFreed_of_dict (Obj.data_mapDictKeys hd _)),
      hc.mapDictKeys _, Obj.data_mapDictKeys hd _, ?_⟩, ?_, ?_⟩ (Heap.SameBut.update ..))))
    · simp [he, mEnt]
    · intro y hy
      rcases List.mem_append.mp hy with hy | hy
      · exact mIs_keeps (hm.is y hy) ho hd (Heap.SameBut.update ..)
      · rw [List.mem_singleton.mp hy]
        exact mIs_keeps hkey ho hd (Heap.SameBut.update ..)
    · rw [List.map_append, List.nodup_append]
      refine ⟨hm.nd, by simp, fun a ha b hb e => ?_⟩
      rw [List.map_cons, List.map_nil, List.mem_singleton] at hb
      exact hnot (by have e2 : b = k := hb; rw [← e2, ← e]; exact ha)
  · refine wpAny_bind (wpAny_rule (wpAny_bind (wpAny_updateDict (s := { s with toks := s.toks + mDraws k }) ho hd (wpAny_point (hold j p hj _ ⟨⟨_, _, ep, Heap.get?_update_self _ ho (Obj.isFreed_of_dict (Obj.data_mapDict hd _)),
      hc.mapDict _, Obj.data_mapDict hd _, ?_⟩, ?_, ?_⟩ (Heap.SameBut.update ..))))))
    · rw [Array.toList_modify, he]
      refine List.ext_getElem? fun i => ?_
      rw [List.getElem?_modify, List.getElem?_map, List.getElem?_map, List.getElem?_modify]
      cases hx : xs[i]? with
      | none => rfl
      | some y =>
        by_cases e : j = i
        · simp [e, mEnt]
        · simp [e]
    · intro y hy
      obtain ⟨i, hi, ei⟩ := List.getElem_of_mem hy
      have e1 : (xs.modify j fun y => (y.1, y.2.1, v))[i]? = some y := by rw [List.getElem?_eq_getElem hi, ei]
      rw [List.getElem?_modify] at e1
      cases hx : xs[i]? with
      | none => rw [hx] at e1; cases e1
      | some z =>
        rw [hx] at e1
        have hz := hm.is z (List.mem_of_getElem? hx)
        have hz2 := mIs_keeps hz ho hd (Heap.SameBut.update (h := s.heap) (a := d) (f := Obj.mapDict (·.modify j fun e => { e with val := v })))
        have e2 : (if j = i then (z.1, z.2.1, v) else z) = y := Option.some.inj e1
        by_cases e : j = i
        · rw [if_pos e] at e2
          rw [← e2]
          exact hz2
        · rw [if_neg e] at e2
          rw [← e2]
          exact hz2
    · have : (xs.modify j fun y => (y.1, y.2.1, v)).map (·.1) = xs.map (·.1) := by
        refine List.ext_getElem? fun i => ?_
        rw [List.getElem?_map, List.getElem?_map, List.getElem?_modify]
        cases xs[i]? with
        | none => rfl
        | some y => by_cases e : j = i <;> simp [e]
      rw [this]; exact hm.nd
end
end Own
set_option Elab.async false
set_option linter.all false
set_option maxRecDepth 100000
set_option maxHeartbeats 2000000
/-! the hand layer's rules for such a dict -/
namespace Own
open PySem PySem.Spec PyProof.Rows L2
def MR (x : MK × V × V) (v : MK × Value × Value) : Prop := x.1 = v.1 ∧ RelV x.2.1 v.2.1 ∧ RelV x.2.2 v.2.2
def MxO (P : Program) (w : World) (d : Addr) (xs : List (MK × V × V)) : HO := .ext fun h => xs.length ≤ sizeLine ∧ (d == sysModules) = false ∧ (xs.map (·.1)).Nodup ∧
  ∃ (vs : List (MK × Value × Value)) (o : Obj) (es : Array DictEntry) (ep : Nat), Paired MR xs vs ∧ h.get? d = some o ∧ o.ExactDict ∧ o.data = .dict es ep ∧ es.toList = vs.map (mEnt P w)
def KeyAt (H : Hp) (x : MK × V × V) : Prop := match x.1 with
  | .inl z => x.2.1 = .str z
  | .inr ks => ∃ a : Addr, x.2.1 = .ref a ∧ H a = some (.tup (ks.map kV))
def KeyL (K : PySem.W.Frag) (H : Hp) (y : V) : MK → Prop
  | .inl z => y = .str z
  | .inr ks => ∃ a : Addr, y = .ref a ∧ SqT K H a (ks.map kV)
structure MDic (P : Program) (w : World) (H : Hp) (d : Addr) (m : List (MK × V)) : Prop where
  ex : ∃ xs, H d = some (MxO P w d xs) ∧ (∀ x ∈ xs, KeyAt H x) ∧ m = xs.map fun x => (x.1, x.2.2)
theorem KeyAt.up {H H' : Hp} {x : MK × V × V} (h : KeyAt H x) (s : ∀ a ys, H a = some (.tup ys) → H' a = some (.tup ys)) : KeyAt H' x := by
  unfold KeyAt at h ⊢
  split at h
  · exact h
  · obtain ⟨a, e1, e2⟩ := h
    exact ⟨a, e1, s _ _ e2⟩
theorem MDic.up {P : Program} {w : World} {H H' : Hp} {d : Addr} {m : List (MK × V)} (h : MDic P w H d m) (s : Same H H') : MDic P w H' d m := by
  obtain ⟨xs, h1, h2, h3⟩ := h.ex
  exact ⟨xs, s _ _ h1, fun x hx => (h2 x hx).up fun a ys e => s _ _ e, h3⟩
section
variable {P : Program} {w : World}
theorem mr_keys : ∀ {xs : List (MK × V × V)} {vs : List (MK × Value × Value)}, Paired MR xs vs → vs.map (·.1) = xs.map (·.1)
  | _, _, .nil => rfl
  | _, _, .cons a b => by rw [List.map_cons, List.map_cons, mr_keys b, a.1]
theorem mr_at : ∀ {xs : List (MK × V × V)} {vs : List (MK × Value × Value)} {i : Nat} {v : MK × Value × Value}, Paired MR xs vs → vs[i]? = some v → ∃ x, xs[i]? = some x ∧ MR x v
  | _, _, 0, v, .cons a _, h => ⟨_, rfl, by rw [← Option.some.inj h]; exact a⟩
  | _, _, i + 1, v, .cons _ b, h => mr_at (i := i) b h
  | _, _, i, v, .nil, h => by simp at h
theorem mr_at' : ∀ {xs : List (MK × V × V)} {vs : List (MK × Value × Value)} {i : Nat} {x : MK × V × V}, Paired MR xs vs → xs[i]? = some x → ∃ v, vs[i]? = some v ∧ MR x v
  | _, _, 0, x, .cons a _, h => ⟨_, rfl, by rw [← Option.some.inj h]; exact a⟩
  | _, _, i + 1, x, .cons _ b, h => mr_at' (i := i) b h
  | _, _, i, x, .nil, h => by simp at h
theorem mr_snoc : ∀ {xs : List (MK × V × V)} {vs : List (MK × Value × Value)} {x : MK × V × V} {v : MK × Value × Value}, Paired MR xs vs → MR x v → Paired MR (xs ++ [x]) (vs ++ [v])
  | _, _, _, _, .nil, h => .cons h .nil
  | _, _, _, _, .cons a b, h => .cons a (mr_snoc b h)
theorem mr_mod {y : V} {u : Value} (ry : RelV y u) : ∀ {xs : List (MK × V × V)} {vs : List (MK × Value × Value)} (j : Nat), Paired MR xs vs → Paired MR (xs.modify j fun x => (x.1, x.2.1, y)) (vs.modify j fun x => (x.1, x.2.1, u))
  | _, _, _, .nil => by simpa using .nil
  | _, _, 0, .cons a b => .cons ⟨a.1, a.2.1, ry⟩ b
  | _, _, j + 1, .cons a b => .cons a (mr_mod ry j b)
theorem tup_is {h : Heap} {ks : List L2.Key} {a : Addr} {its : List Value} (r : Vals (ks.map kV) its) (ht : IsTup h a its.toArray) : (tupleKind (mixKind P w)).is h ks a := by
  obtain ⟨o, h1, h2, n, h3⟩ := ht
  exact ⟨o, its.toArray, n, h1, h2, h3, by simpa using items_are r⟩
section
variable {X : Cx} {pins : List (Addr × Obj)} {σ : L2.St} {H : Hp} {s : Shared} {d : Addr}
theorem key_real (I : L2.Inv X pins σ H s) {y : V} {u : Value} {k : MK} (hk : KeyL X.K H y k) (ry : RelV y u) : mIs X.prog X.w s.heap k u := by
  cases k with
  | inl z =>
    have e : y = .str z := hk
    subst e
    exact ry
  | inr ks =>
    obtain ⟨a, e, hs⟩ := hk
    subst e
    obtain rfl : u = Value.ref a := ry
    obtain ⟨its, r, ht, _⟩ := I.tuple hs
    exact ⟨a, rfl, tup_is r ht⟩
theorem keyAt_real (I : L2.Inv X pins σ H s) {x : MK × V × V} {v : MK × Value × Value} (hk : KeyAt H x) (r : MR x v) : mIs X.prog X.w s.heap v.1 v.2.1 := by
  obtain ⟨k, y, z⟩ := x
  obtain ⟨k2, u, z2⟩ := v
  obtain ⟨e, r1, _⟩ := r
  cases e
  cases k with
  | inl z =>
    have e : y = .str z := hk
    subst e
    exact r1
  | inr ks =>
    obtain ⟨a, e, hs⟩ := (show ∃ a : Addr, y = .ref a ∧ H a = some (.tup (ks.map kV)) from hk)
    subst e
    obtain rfl : u = Value.ref a := r1
    exact ⟨a, rfl, key_of I.hok hs⟩
theorem md_of (I : L2.Inv X pins σ H s) {xs : List (MK × V × V)} (h1 : H d = some (MxO X.prog X.w d xs)) (h2 : ∀ x ∈ xs, KeyAt H x) :
    xs.length ≤ sizeLine ∧ (d == sysModules) = false ∧ (xs.map (·.1)).Nodup ∧ ∃ vs, Paired MR xs vs ∧ MD X.prog X.w s.heap d vs := by
  obtain ⟨hl, hs, hn, vs, o, es, ep, hp, ho, hc, hd, he⟩ := (show ObjOk X.prog X.w H s.heap d (MxO X.prog X.w d xs) from I.hok d _ h1).1
  refine ⟨hl, hs, hn, vs, hp, ⟨o, es, ep, ho, hc, hd, he⟩, fun v hv => ?_, by rw [mr_keys hp]; exact hn⟩
  obtain ⟨i, hi, e⟩ := List.getElem_of_mem hv
  obtain ⟨x, hx, r⟩ := mr_at hp (by rw [List.getElem?_eq_getElem hi, e])
  exact keyAt_real I (h2 x (List.mem_of_getElem? hx)) r
theorem mx_ok {h : Heap} {xs : List (MK × V × V)} {vs : List (MK × Value × Value)} (hl : xs.length ≤ sizeLine) (hs : (d == sysModules) = false) (hn : (xs.map (·.1)).Nodup) (hp : Paired MR xs vs)
    (ex : ∃ o es ep, h.get? d = some o ∧ o.ExactDict ∧ o.data = .dict es ep ∧ es.toList = vs.map (mEnt X.prog X.w)) : ObjOk X.prog X.w H h d (MxO X.prog X.w d xs) := by
  obtain ⟨o, es, ep, ho, hc, hd, he⟩ := ex
  refine ⟨⟨hl, hs, hn, vs, o, es, ep, hp, ho, hc, hd, he⟩, ⟨o, ho⟩, fun h1 h2 z k => ?_⟩
  obtain ⟨a1, a2, a3, vs1, o1, es1, ep1, b1, b2, b3, b4, b5⟩ := z
  exact ⟨a1, a2, a3, vs1, o1, es1, ep1, b1, k _ b2, b3, b4, b5⟩
/-- what stands at a place of the pairs -/
theorem val_of {xs : List (MK × V × V)} (hn : (xs.map (·.1)).Nodup) {j : Nat} {x : MK × V × V} (h : xs[j]? = some x) : valV (xs.map fun x => (x.1, x.2.2)) x.1 = some x.2.2 := by
  induction xs generalizing j with
  | nil => simp at h
  | cons y r ih =>
    rw [List.map_cons, List.nodup_cons] at hn
    cases j with
    | zero =>
      cases h
      exact valV_pos rfl
    | succ j =>
      have hm : x.1 ∈ r.map (·.1) := List.mem_map.mpr ⟨x, List.mem_of_getElem? (show r[j]? = some x from h), rfl⟩
      rw [List.map_cons, valV_neg (fun e : y.1 = x.1 => hn.1 (by rw [e]; exact hm))]
      exact ih hn.2 (show r[j]? = some x from h)
theorem val_none {xs : List (MK × V × V)} {k : MK} (h : ∀ (j : Nat) (p : V × V), xs[j]? ≠ some (k, p)) : valV (xs.map fun x => (x.1, x.2.2)) k = none := by
  induction xs with
  | nil => rfl
  | cons y r ih =>
    rw [List.map_cons, valV_neg (fun e : y.1 = k => h 0 y.2 (by rw [← e]; rfl))]
    exact ih fun j p e => h (j + 1) p e
end
end
end Own
set_option Elab.async false
set_option linter.all false
set_option maxRecDepth 100000
set_option maxHeartbeats 2000000
/-! d[k], k in d, d[k] = v; a dict of texts told as such a dict -/
namespace Own
open PySem PySem.Spec PyProof.Rows L2
section
variable {X : Cx} {pins : List (Addr × Obj)} {σ : L2.St} {H : Hp} {s : Shared} {d : Addr} {m : List (MK × V)} {k : MK} {y : V} {u : Value} {A : Around} {E : Value → Shared → Prop}
theorem mx_getItem {Q : Value → Shared → Prop} {v : V} (hu : A.units + 1 < cLine) (I : L2.Inv X pins σ H s) (g : MDic X.prog X.w H d m) (hk : KeyL X.K H y k) (ry : RelV y u) (hv : valV m k = some v) (h : ∀ w' s', L2.Inv X pins σ H s' → RelV v w' → Q w' s') :
    wpAny (model X.prog X.w) A (getItem (.ref d) u) Q E s := by
  obtain ⟨xs, h1, h2, rfl⟩ := g.ex
  obtain ⟨_, _, hn, vs, hp, hm⟩ := md_of I h1 h2
  unfold getItem
  try with_reducible refine wpAny_holding ?_
  refine wpAny_bind (wpAny_sequenceKey hm.typeIs (by decide) ?_)
  refine wpAny_bind (wpAny_callSpecial?_slot (name := Str.ofString "__getitem__") hm.typeIs PySem.F.slot_dict_getitem (wpAny_call_entry PySem.F.slot_dict_getitem hm.typeIs PySem.F.entry_dict_getitem ?_ (PySem.F.args_dict_getitem_2 _ _)))
  show wpAny _ _ (dictGet d u >>= _) _ _ s
  refine wpAny_bind (m_get (A := A.in1) hu (key_real I hk ry) hm (fun z => ?_) fun j p hj => ?_)
  · rw [val_none fun j p e => ?_] at hv
    · cases hv
    · obtain ⟨v2, e2, r⟩ := mr_at' hp e
      obtain ⟨k2, q⟩ := v2
      exact z j q (by rw [e2, show k2 = k from r.1.symm])
  · obtain ⟨x, hx, r⟩ := mr_at hp hj
    have e := val_of hn hx
    rw [show x.1 = k from r.1] at e
    rw [hv] at e
    have e2 : v = x.2.2 := Option.some.inj e
    exact wpAny_pure ⟨p.2, rfl, wpAny_pure (h _ _ (I.tok _) (by rw [e2]; exact r.2.2))⟩
theorem mx_in {Q : Value → Shared → Prop} (hu : A.units + 1 < cLine) (I : L2.Inv X pins σ H s) (g : MDic X.prog X.w H d m) (hk : KeyL X.K H y k) (ry : RelV y u) (h : ∀ s', L2.Inv X pins σ H s' → Q (.bool (valV m k).isSome) s') :
    wpAny (model X.prog X.w) A (compareOp .In u (.ref d)) Q E s := by
  obtain ⟨xs, h1, h2, rfl⟩ := g.ex
  obtain ⟨_, hsm, hn, vs, hp, hm⟩ := md_of I h1 h2
  show wpAny _ _ (do return .bool (← contains (.ref d) u)) Q E s
  refine wpAny_bind ?_
  unfold contains
  try with_reducible refine wpAny_holding ?_
  refine wpAny_bind (wpAny_specialOf hm.typeIs PySem.F.slot_dict_contains.lookup ?_)
  show wpAny _ _ (if (some (Value.builtin "dict.__contains__") == some Value.none) = true then _ else _) _ E s
  rw [if_neg (by rw [beq_builtin_none]; exact Bool.false_ne_true)]
  refine wpAny_bind (wpAny_callSpecialUnlessNone?_slot (name := Str.ofString "__contains__") hm.typeIs PySem.F.slot_dict_contains
    (wpAny_call_entry PySem.F.slot_dict_contains hm.typeIs PySem.F.entry_dict_contains ?_ (PySem.F.args_dict_contains_2 _ _)))
  show wpAny _ _ (dictGet d u >>= _) _ _ s
  refine wpAny_bind (m_get (A := A.in1) hu (key_real I hk ry) hm (fun z => ?_) fun j p hj => ?_)
  · have e0 := val_none (xs := xs) (k := k) fun j p e => by
      obtain ⟨v2, e2, r⟩ := mr_at' hp e
      obtain ⟨k2, q⟩ := v2
      exact z j q (by rw [e2, show k2 = k from r.1.symm])
    rw [e0] at h
    show wpAny _ _ (Builtin.Dict.pendingKey? d u >>= _) _ _ _
    exact wpAny_bind (wpAny_pendingKey_other hsm (wpAny_pure ⟨_, rfl, wpAny_truthy_bool (wpAny_pure (h _ (I.tok _)))⟩))
  · obtain ⟨x, hx, r⟩ := mr_at hp hj
    have e := val_of hn hx
    rw [show x.1 = k from r.1] at e
    rw [e] at h
    show wpAny _ _ (ret (.bool true)) _ _ _
    exact wpAny_pure ⟨_, rfl, wpAny_truthy_bool (wpAny_pure (h _ (I.tok _)))⟩
theorem keyAt_new {k : MK} {y v : V} {H : Hp} (hk : KeyAt H (k, y, v)) : ∀ v', KeyAt H (k, y, v') := fun v' => hk
/-- d[y] = v: what the key is stands in the heap as a tuple of one's own, or is a text -/
theorem mx_setItem {r : Value} {v : V} {Q : Unit → Shared → Prop} (hu : A.units + 1 < cLine) (I : L2.Inv X pins σ H s) (g : MDic X.prog X.w H d m) (hk : KeyL X.K H y k) (hka : KeyAt H (k, y, v)) (hl : m.length < sizeLine) (ry : RelV y u) (rv : RelV v r)
    (h : ∀ o s', MDic X.prog X.w (upd H d o) d (putK m k v) → L2.Inv X pins σ (upd H d o) s' → Q () s') : wpAny (model X.prog X.w) A (setItem (.ref d) u r) Q E s := by
  obtain ⟨xs, h1, h2, rfl⟩ := g.ex
  obtain ⟨hl0, hsm, hn, vs, hp, hm⟩ := md_of I h1 h2
  have hlx : xs.length < sizeLine := by rw [List.length_map] at hl; exact hl
  have hlv : vs.length = xs.length := hp.length.symm
  have keep : ∀ {o : HO} (x : MK × V × V), KeyAt H x → KeyAt (upd H d o) x := fun x z => z.up fun a ys e => by
    rw [upd_ne (ne_of e h1 (fun q => nomatch q))]; exact e
  unfold setItem
  try with_reducible refine wpAny_holding ?_
  refine wpAny_bind (wpAny_sequenceKey hm.typeIs (by decide) ?_)
  refine wpAny_bind (wpAny_callSpecial?_slot (name := Str.ofString "__setitem__") hm.typeIs PySem.F.slot_dict_setitem (wpAny_call_entry PySem.F.slot_dict_setitem hm.typeIs PySem.F.entry_dict_setitem ?_ (PySem.F.args_dict_setitem_3 _ _ _)))
  show wpAny _ _ (Builtin.Dict.notOrdered "__setitem__" ⟨[.ref d, u, r], []⟩ >>= _) _ _ s
  refine wpAny_bind (wpAny_notOrdered_dict hm.typeIs ?_)
  show wpAny _ _ (dictSet d u r >>= _) _ _ s
  have mu : Mut (H d) := by rw [h1]; exact True.intro
  refine wpAny_bind (m_set (A := A.in1) hu (key_real I hk ry) hm (by rw [hlv]; exact hl0) (fun hno h' hm' hs' => wpAny_pure ⟨.none, rfl, wpAny_pure (h (MxO X.prog X.w d (xs ++ [(k, y, v)])) _ ⟨⟨_, upd_same, fun x hx => ?_, ?_⟩⟩ ?_)⟩) fun j p hj h' hm' hs' => wpAny_pure ⟨.none, rfl, wpAny_pure (h (MxO X.prog X.w d (xs.modify j fun x => (x.1, x.2.1, v))) _ ⟨⟨_, upd_same, fun x hx => ?_, ?_⟩⟩ ?_)⟩)
  · rcases List.mem_append.mp hx with hx | hx
    · exact keep _ (h2 x hx)
    · rw [List.mem_singleton.mp hx]; exact keep _ hka
  · have e0 := val_none (xs := xs) (k := k) fun j p e => by
      obtain ⟨v2, e2, r⟩ := mr_at' hp e
      obtain ⟨k2, q⟩ := v2
      exact hno j q (by rw [e2, show k2 = k from r.1.symm])
    rw [putK_new v e0, List.map_append]; rfl
  · have hpn := mr_snoc hp (show MR (k, y, v) (k, u, r) from ⟨rfl, ry, rv⟩)
    have hnn : ((xs ++ [(k, y, v)]).map (·.1)).Nodup := by rw [← mr_keys hpn]; exact hm'.nd
    obtain ⟨o, es, ep, ho, q⟩ := hm'.ex
    exact d_write I mu hs' ⟨o, ho⟩ (mx_ok (by rw [List.length_append, List.length_singleton]; omega) hsm hnn hpn ⟨o, es, ep, ho, q⟩)
  · obtain ⟨i, hi, e⟩ := List.getElem_of_mem hx
    have e1 : (xs.modify j fun x => (x.1, x.2.1, v))[i]? = some x := by rw [List.getElem?_eq_getElem hi, e]
    rw [List.getElem?_modify] at e1
    cases hz : xs[i]? with
    | none => rw [hz] at e1; cases e1
    | some z =>
      rw [hz] at e1
      have e2 : (if j = i then (z.1, z.2.1, v) else z) = x := Option.some.inj e1
      have hzk := h2 z (List.mem_of_getElem? hz)
      by_cases c : j = i
      · rw [if_pos c] at e2
        rw [← e2]; exact keep _ hzk
      · rw [if_neg c] at e2
        rw [← e2]; exact keep _ hzk
  · obtain ⟨x, hx, rx⟩ := mr_at hp hj
    have ek : x.1 = k := rx.1
    have he := val_of hn hx
    rw [ek] at he
    unfold putK
    rw [valV_any, he]
    refine List.ext_getElem? fun i => ?_
    simp only [Option.isSome_some, if_true, List.getElem?_map, List.getElem?_modify]
    cases hz : xs[i]? with
    | none => rfl
    | some z =>
      by_cases c : j = i
      · subst c
        rw [hx] at hz
        cases hz
        simp [ek]
      · have nk : ¬ z.1 = k := fun q => c (by
          have a1 : (xs.map (·.1))[j]? = some k := by rw [List.getElem?_map, hx, ← ek]; rfl
          have a2 : (xs.map (·.1))[i]? = some k := by rw [List.getElem?_map, hz, ← q]; rfl
          obtain ⟨b1, c1⟩ := List.getElem?_eq_some_iff.mp a1
          obtain ⟨b2, c2⟩ := List.getElem?_eq_some_iff.mp a2
          exact (List.getElem_inj hn).mp (c1.trans c2.symm))
        simp [c, nk]
  · have hpn := mr_mod rv j hp
    have hnn : ((xs.modify j fun x => (x.1, x.2.1, v)).map (·.1)).Nodup := by rw [← mr_keys hpn]; exact hm'.nd
    obtain ⟨o, es, ep, ho, q⟩ := hm'.ex
    exact d_write I mu hs' ⟨o, ho⟩ (mx_ok (by rw [List.length_modify]; exact hl0) hsm hnn hpn ⟨o, es, ep, ho, q⟩)
end
end Own
set_option Elab.async false
set_option linter.all false
set_option maxRecDepth 100000
set_option maxHeartbeats 2000000
/-! expressions and statements over such a dict -/
namespace Own
open PySem PySem.Spec PyProof.Rows L2
def tMGet (P : Program) (w : World) (K : PySem.W.Frag) (td ty : TE) : TE := fun σ H Q => td σ H fun x H1 => ty σ H1 fun y H2 => ∃ d m k v, x = .ref d ∧ MDic P w H2 d m ∧ KeyL K H2 y k ∧ valV m k = some v ∧ Q v H2
def tMIn (P : Program) (w : World) (K : PySem.W.Frag) (ty td : TE) : TE := fun σ H Q => ty σ H fun y H1 => td σ H1 fun x H2 => ∃ d m k, x = .ref d ∧ MDic P w H2 d m ∧ KeyL K H2 y k ∧ Q (.bl (valV m k).isSome) H2
def sMPut (P : Program) (w : World) (K : PySem.W.Frag) (td ty tv : TE) : TS := fun D σ H => tv σ H fun v H1 => td σ H1 fun x H2 => ty σ H2 fun y H3 => ∃ d m k, x = .ref d ∧ MDic P w H3 d m ∧ KeyL K H3 y k ∧ KeyAt H3 (k, y, v) ∧ m.length < sizeLine ∧ ∀ o, MDic P w (upd H3 d o) d (putK m k v) → D.nx σ (upd H3 d o)
/-- a dict of texts is told as one with texts and tuples -/
def tMix (P : Program) (w : World) (t : TE) : TE := fun σ H Q => t σ H fun x H1 => ∃ d kvs, x = .ref d ∧ H1 d = some (.dK kvs) ∧ ∃ m : List (Str × V), kvs = m.map (fun q => (.inr q.1, q.2)) ∧ ∀ o, MDic P w (upd H1 d o) d (m.map fun q => (.inl q.1, q.2)) → Q x (upd H1 d o)
section
variable {X : Cx}
theorem md_type {pins : List (Addr × Obj)} {σ : L2.St} {H : Hp} {s : Shared} {d : Addr} {m : List (MK × V)} (I : L2.Inv X pins σ H s) (g : MDic X.prog X.w H d m) : s.TypeIs (.ref d) "dict" := by
  obtain ⟨xs, h1, h2, rfl⟩ := g.ex
  obtain ⟨_, _, _, vs, _, hm⟩ := md_of I h1 h2
  exact hm.typeIs
theorem pe_mget {P : Program} {w : World} {K : PySem.W.Frag} (hP : X.prog = P) (hw : X.w = w) (hK : X.K = K) {o i : Expr} {td ty : TE} {pos : Pos} (hu : X.A.units + 1 < cLine) (ho : PE X o td) (hi : PE X i ty) (hs : NoSl i) : PE X (.Subscript o i pos) (tMGet P w K td ty) := by
  subst hP hw hK
  refine ⟨fun pins s σ H Q I h => ?_⟩
  refine subD_of PySem.F.slot_dict_getitem.lookup hs (thn (ho.run pins s σ H _ I h) fun u s1 ⟨x, H1, I1, rx, q1⟩ => thn (hi.run pins s1 σ H1 _ I1 q1) fun iv s2 ⟨y, H2, I2, ry, d, m, k, v, ex, g, hk, hv, q2⟩ => ?_)
  subst ex
  obtain rfl : u = Value.ref d := rx
  exact ⟨md_type I2 g, mx_getItem hu I2 g hk ry hv fun w' s3 I3 rw' => ⟨v, H2, I3, rw', q2⟩⟩
theorem pc_min {P : Program} {w : World} {K : PySem.W.Frag} (hP : X.prog = P) (hw : X.w = w) (hK : X.K = K) {o i : Expr} {td ty : TE} (hu : X.A.units + 1 < cLine) (hi : PE X i ty) (ho : PE X o td) : PC X .In i o (tMIn P w K ty td) := by
  subst hP hw hK
  refine ⟨fun pins s σ H Q I h => ?_⟩
  refine thn (hi.run pins s σ H _ I h) fun iv s1 ⟨y, H1, I1, ry, q1⟩ => thn (ho.run pins s1 σ H1 _ I1 q1) fun u s2 ⟨x, H2, I2, rx, d, m, k, ex, g, hk, q2⟩ => ?_
  subst ex
  obtain rfl : u = Value.ref d := rx
  exact mx_in hu I2 g hk ry fun s3 I3 => ⟨.bl (valV m k).isSome, H2, I3, rfl, q2⟩
theorem ps_mput {P : Program} {w : World} {K : PySem.W.Frag} (hP : X.prog = P) (hw : X.w = w) (hK : X.K = K) {o i value : Expr} {td ty tv : TE} {pos pos' : Pos} (hu : X.A.units + 1 < cLine) (ho : PE X o td) (hi : PE X i ty) (hv : PE X value tv) (hs : swapsWith value (some (.Subscript o i pos')) pos.line X.env = pure false) :
    PS X (.Assign [.Subscript o i pos'] value pos) (sMPut P w K td ty tv) := by
  subst hP hw hK
  refine ⟨fun pins s σ H D I h => ?_⟩
  refine wpAny_Assign_Subscript (thn (hv.run pins s σ H _ I h) fun r s1 ⟨v, H1, I1, rv, q1⟩ => thn (ho.run pins s1 σ H1 _ I1 q1) fun u s2 ⟨x, H2, I2, rx, q2⟩ => thn (hi.run pins s2 σ H2 _ I2 q2) fun iv s3 ⟨y, H3, I3, ry, d, m, k, ex, g, hk, hka, hl, q3⟩ => ?_) hs
  subst ex
  obtain rfl : u = Value.ref d := rx
  exact mx_setItem hu I3 g hk hka hl ry rv fun o s4 g4 I4 => ⟨σ, _, I4, q3 o g4⟩
theorem mix_key {P : Program} {w : World} {x : Str} {u : Value} (h : (mixKind P w).is (.inr x) u = true) : ∃ t, u = .str x t := by
  rcases keyIs_shape (show keyIs (.inr x) u = true from h) with ⟨i, t, e, _⟩ | ⟨z, t, e, rfl⟩
  · cases e
  · cases e
    exact ⟨t, rfl⟩
theorem ent_key {P : Program} {w : World} {e : DictEntry} {x : Str} {y : V} {v : Value} (h1 : (mixKind P w).is (.inr x) e.key = true) (h2 : e.val = v) (hh : ∃ k, (mixKind P w).is k e.key = true ∧ e.hash = (mixKind P w).hash k) (ry : RelV y v) :
    mEnt P w (.inl x, e.key, e.val) = e ∧ MR (.inl x, .str x, y) (.inl x, e.key, e.val) := by
  obtain ⟨k', b1, b2⟩ := hh
  have ek : k' = .inr x := (mixKind P w).inj _ _ _ b1 h1
  rw [ek] at b2
  refine ⟨?_, rfl, mix_key h1, by rw [h2]; exact ry⟩
  obtain ⟨eh, ekk, ev⟩ := e
  have b3 : eh = (mixKind P w).hash (.inr x) := b2
  rw [b3]
  rfl
theorem pairs_mx {P : Program} {w : World} (m : List (Str × V)) : ∀ {l : List DictEntry} {vs : List (L2.Key × Value)}, Pairs (mixKind P w) l vs → (∀ e ∈ l, ∃ k, (mixKind P w).is k e.key = true ∧ e.hash = (mixKind P w).hash k) → KV (m.map fun q => ((.inr q.1 : L2.Key), q.2)) vs →
    ∃ vs' : List (MK × Value × Value), l = vs'.map (mEnt P w) ∧ Paired MR (m.map fun q => ((.inl q.1 : MK), V.str q.1, q.2)) vs' := by
  induction m with
  | nil =>
    intro l vs hp hk rel
    cases rel
    cases hp
    exact ⟨[], rfl, .nil⟩
  | cons q m ih =>
    intro l vs hp hk rel
    cases rel with
    | @cons _ kv _ rest a b =>
      cases hp with
      | @cons e _ es _ h1 h2 r =>
        obtain ⟨vs', e1, e2⟩ := ih r (fun z hz => hk z (List.mem_cons_of_mem _ hz)) b
        obtain ⟨k, v⟩ := kv
        obtain ⟨a1, a2⟩ := a
        have a3 : k = .inr q.1 := a1.symm
        subst a3
        obtain ⟨z1, z2⟩ := ent_key h1 h2 (hk e (List.mem_cons_self ..)) a2
        exact ⟨(.inl q.1, e.key, e.val) :: vs', by rw [List.map_cons, z1, ← e1], .cons z2 e2⟩
theorem pe_mix {P : Program} {w : World} (hP : X.prog = P) (hw : X.w = w) {e : Expr} {t : TE} (he : PE X e t) : PE X e (tMix P w t) := by
  subst hP hw
  refine ⟨fun pins s σ H Q I h => ?_⟩
  refine thn (he.run pins s σ H _ I h) fun u s1 ⟨x, H1, I1, rx, d, kvs, ex, hd, m, em, q⟩ => ?_
  subst ex em
  obtain ⟨hl, hsm, vs, rel, o, es, ep, ho, hc, hdat, hko, hpr, hnd⟩ := dk_of I1.hok hd
  obtain ⟨vs', e1, e2⟩ := pairs_mx m hpr (fun e he => hko e (Array.mem_toList_iff.mp he)) rel
  have hn : ((m.map fun q => ((.inl q.1 : MK), V.str q.1, q.2)).map (·.1)).Nodup := by
    have h1 : (vs.map (·.1)) = m.map fun q => (.inr q.1 : L2.Key) := by rw [← rel.keys, List.map_map]; rfl
    rw [h1] at hnd
    rw [List.map_map]
    exact List.pairwise_map.mpr ((List.pairwise_map.mp hnd).imp fun n e => n (by rw [show _ = _ from Sum.inl.inj e]))
  have I2 : L2.Inv X pins σ (upd H1 d (MxO X.prog X.w d (m.map fun q => ((.inl q.1 : MK), V.str q.1, q.2)))) s1 :=
    Inv.write (t' := s1.toks) I1 (x := d) (e := d) (by rw [hd]; exact True.intro) (.inl rfl) (fun _ _ _ z => z) ⟨o, ho⟩ (mx_ok (by rw [List.length_map] at hl ⊢; exact hl) hsm hn e2 ⟨o, es, ep, ho, hc, hdat, e1⟩)
  refine ⟨.ref d, _, I2, rx, q _ ⟨⟨_, upd_same, fun y hy => ?_, by rw [List.map_map]; rfl⟩⟩⟩
  obtain ⟨z, _, rfl⟩ := List.mem_map.mp hy
  rfl
end
end Own
set_option Elab.async false
set_option linter.all false
set_option maxRecDepth 100000
set_option maxHeartbeats 2000000
/-! own classes: x + y, x & y by an own def; a static method; an exception of an own class without __init__ of its own, its base an own class, too -/
namespace Own
open PySem PySem.Spec PyProof.Rows L2
section
variable {X : Cx} {CX : CXT} {C f : Addr} {fd : FuncData} {ps : List Str} {n : Nat} {sp : Sp} {E : XK} {op : Operator}
/-- x op y by the def of x's class; what stands on the right is told by oth; the answer is an object -/
def rOp (C : Addr) (sp : Sp) (E : XK) (oth : V → Hp → Prop) : R2 := fun x y H Q => ∃ a dx fs, x = .ref a ∧ H a = some (.ins C dx fs) ∧ oth y H ∧ sp [x, y] H (fun v H' => ∃ p, v = .ref p ∧ Q (.ref p) H') E
/-- on the right an instance of the same class -/
def likeIt (C : Addr) : V → Hp → Prop := fun y H => ∃ b dy gs, y = .ref b ∧ H b = some (.ins C dy gs)
def intIt : V → Hp → Prop := fun y _ => ∃ i : Int, y = .int i
theorem op_like (F : FnOk X.prog X.w X.K X.mg X.base CX n f fd ps sp) (hs : PySem.W.findIn X.K (.ref C) (PySem.dunder op.info.2) = some (some (.ref f))) (hf : PySem.W.isFn X.K (.ref f) = true) (hc : PySem.W.selfFirst X.K C = true) (hb : L2.Binds X.K fd ps []) (hx : Passes CX X E) (hr : Room n X.A) :
    OpR X (binaryOp op) (rOp C sp E (likeIt C)) := by
  rintro pins s σ H x y u v Q I rx ry ⟨a, dx, fs, rfl, ha, ⟨b, dy, gs, rfl, hb2⟩, hsp⟩
  cases (show u = Value.ref a from rx)
  cases (show v = Value.ref b from ry)
  obtain ⟨mA, J, _⟩ := ins_get I.hok ha
  obtain ⟨mB, L, _⟩ := ins_get I.hok hb2
  obtain ⟨odA, J, _⟩ := J.look
  obtain ⟨odB, L, _⟩ := L.look
  obtain ⟨m, hF⟩ := I.fr
  show wpAny (model X.prog X.w) X.A (binaryOp op (.ref a) (.ref b)) (EP X pins σ Q) X.xe s
  refine PySem.W.binop_K hF I.ok.mod.kin J L.type hc hs hf ?_
  refine wpAny_mono (own_call F hb hx hr rfl I (x := .ref a) (y := .ref b) rfl rfl hsp) (fun r s' h => ?_) fun _ _ z => z
  obtain ⟨z, H', rz, I', p, rfl, q⟩ := h
  cases (show r = Value.ref p from rz)
  exact ⟨.ref p, H', I', rfl, q⟩
theorem op_intR {fo ro rc : Option Value} (F : FnOk X.prog X.w X.K X.mg X.base CX n f fd ps sp) (hs : PySem.W.findIn X.K (.ref C) (PySem.dunder op.info.2) = some (some (.ref f))) (hf : PySem.W.isFn X.K (.ref f) = true) (hc : PySem.W.selfFirst X.K C = true)
    (hrc : PySem.W.findIn X.K (.ref C) (dunderR op.info.2) = some none) (h1 : PySem.W.findIn X.K (.type "int") (PySem.dunder op.info.2) = some fo) (h2 : PySem.W.findIn X.K (.type "int") (dunderR op.info.2) = some ro) (hsub : PySem.W.subIn X.K (.type "int") (.ref C) = some false)
    (hb : L2.Binds X.K fd ps []) (hx : Passes CX X E) (hr : Room n X.A) : OpR X (binaryOp op) (rOp C sp E intIt) := by
  rintro pins s σ H x y u v Q I rx ry ⟨a, dx, fs, rfl, ha, ⟨i, rfl⟩, hsp⟩
  cases (show u = Value.ref a from rx)
  obtain ⟨t, rfl⟩ : ∃ t, v = Value.int i t := ry
  obtain ⟨mA, J, _⟩ := ins_get I.hok ha
  obtain ⟨odA, J, _⟩ := J.look
  obtain ⟨m, hF⟩ := I.fr
  show wpAny (model X.prog X.w) X.A (binaryOp op (.ref a) (.int i t)) (EP X pins σ Q) X.xe s
  refine PySem.W.ksp_binT hF I.ok.mod.kin J (T := "int") rfl hc hs hf hrc (.inl rfl) h1 h2 hsub ?_
  refine wpAny_mono (own_call F hb hx hr rfl I (x := .ref a) (y := .int i) rfl ⟨t, rfl⟩ hsp) (fun r s' h => ?_) fun _ _ z => z
  obtain ⟨z, H', rz, I', p, rfl, q⟩ := h
  cases (show r = Value.ref p from rz)
  exact ⟨.ref p, H', I', rfl, q⟩
end
/-! ### dicts -/
theorem hits_flatA {A : Around} {s : Shared} {ls : List (Key × V)} {vb : List (Key × Value)} (rb : KV ls vb) (fl : ∀ k u, valV ls k = some u → flatV u = true) {ks : List (Key × V)} {va : List (Key × Value)}
    (ra : KV ks va) : (∀ p ∈ ks, flatV p.2 = true) → PySem.W.KeqHits A s vb va (eqKv ks ls) := by
  unfold KV at ra
  induction ra with
  | nil => intro _; exact .nil
  | @cons p q ps qs h t k =>
    intro hp
    obtain ⟨h1, h2⟩ := h
    have rr : RelO (valV ls p.1) (valueAt vb p.1) := rb.val p.1
    obtain ⟨key, v⟩ := q
    have h1' : p.1 = key := h1
    have rest := k fun p' hm => hp p' (List.mem_cons_of_mem _ hm)
    cases e : valV ls p.1 with
    | none =>
      rw [e] at rr
      have hn : valueAt vb key = none := by
        rw [← h1']
        cases hv : valueAt vb p.1 with
        | none => rfl
        | some z => rw [hv] at rr; exact rr.elim
      have hb : eqKv (p :: ps) ls = false := by unfold eqKv; rw [List.all_cons, e]; rfl
      rw [hb]
      exact .miss hn
    | some u =>
      rw [e] at rr
      obtain ⟨y, hy, ry⟩ := rr.some_of
      rw [h1'] at hy
      have hb : eqKv (p :: ps) ls = (eqV p.2 u && eqKv ps ls) := by unfold eqKv; rw [List.all_cons, e]
      rw [hb]
      exact .hit hy (eqAt_V h2 ry (hp p List.mem_cons_self) (fl _ _ e)) rest
/-- a != b of dicts of flat things, any answer -/
def rNeDF : R2 := fun x y H Q => ∃ a b ks ls, x = .ref a ∧ y = .ref b ∧ H a = some (.dK ks) ∧ H b = some (.dK ls) ∧ (∀ p ∈ ks, flatV p.2 = true) ∧ (∀ k u, valV ls k = some u → flatV u = true) ∧ Q (.bl !(ks.length == ls.length && eqKv ks ls)) H
theorem op_neDF {X : Cx} (hu : X.A.units + 64 < cLine) : OpR X (compareOp .NotEq) rNeDF := by
  rintro pins s σ H x y v u Q I rx ry ⟨a, b, ks, ls, rfl, rfl, ha, hb, f1, f2, q⟩
  cases (show v = Value.ref a from rx)
  cases (show u = Value.ref b from ry)
  obtain ⟨_, ya, va, ra, da⟩ := (show ObjOk X.prog X.w H s.heap a (.dK ks) from I.hok a _ ha)
  obtain ⟨_, yb, vb, rb, db⟩ := (show ObjOk X.prog X.w H s.heap b (.dK ls) from I.hok b _ hb)
  have la : ks.length = va.length := by unfold KV at ra; exact ra.length
  have lb : ls.length = vb.length := by unfold KV at rb; exact rb.length
  refine PySem.W.keq_ne (knd := mixKind X.prog X.w) (r := eqKv ks ls) ya yb da db (by omega) (fun _ => hits_flatA rb f2 ra f1) ?_
  rw [← la, ← lb]
  exact ⟨.bl _, H, I, rfl, q⟩
/-! ### an exception without __init__ of its own -/
theorem pmk_bare {X : Cx} {C : Addr} {x : Str} {p pos : Pos} (q : PySem.W.excInitIn X.K C [.type "ValueError", .type "Exception", .type "BaseException", .type "object"] "ValueError.__new__" = true) (hi : PySem.W.findIn X.K (.ref C) "__init__" = some (some (.builtin "ValueError.__init__")))
    (gC : X.mg x = some (.ref C)) (kC : PySem.W.keepIn X.K (.ref C) = true) (r : Raises X (.ref C)) (hg : Gl X x) (hdb : (x == ("__debug__" : Str)) = false := by decide) : PMk X (.Call (.Name x p) [] [] pos) (fun _ H Q => Q (.ref C) none H) := by
  intro pins s σ H Q I h
  refine wpAny_Call_Name_kw (ld_glob I hg gC ?_ hdb)
  refine PySem.W.callWith_K0 (first := []) I.kIn kC ?_
  show wpAny _ _ (call (.ref C) []) _ _ _
  have KI := I.kIn
  obtain ⟨nm, N, qn, bs, bm, hd, sn, sub, ab, col, dd, k0, k1, k2, k3, k5, hC, hT⟩ := PySem.W.excInit_of KI q
  have bare := I.bare
  have hok := I.hok
  obtain ⟨hp, g, d, t, os⟩ := s
  refine PySem.W.call_B F.excBase_ValueError hT hC (PySem.W.looks_findIn KI hi) (Nat.zero_le _) (fun h' k e1 e2 => ?_)
  have nw : hp.get? (hp.objs.size + 1) = none := by
    cases z : hp.get? (hp.objs.size + 1) with
    | none => rfl
    | some o => exact absurd (Heap.lt_size z) (Nat.not_lt.mpr (Nat.le_succ _))
  exact ⟨_, _, _, ⟨hp, g, d, t, os⟩, H, .ref C, none, rfl, I, k, nw, e1, ⟨rfl, rfl⟩, rfl, rfl, hok.gone nw, rfl, bare, r, h⟩
/-! ### a static method by its class's name -/
/-- what the written part says of C.m, a static method around the def at f -/
structure StaM (K : PySem.W.Frag) (C : Addr) (m : Str) (f : Addr) : Prop where
  ty : PySem.W.typeIn K (.ref C) = some (.type "type")
  rd : PySem.W.readsIn K C (.type "type") = true
  sp : PySem.W.specialIn K (.ref C) "__getattribute__" = some (some (.builtin "type.__getattribute__"))
  at_ : ∃ p rest, PySem.W.findCls K (.ref C) (.type "type") m = some (.get (.builtin "staticmethod.__get__") (.ref p) .none (.ref C)) ∧ PySem.W.recIn K p "staticmethod" = some (.ref f :: rest)
  kp : PySem.W.keepIn K (.ref f) = true
def tSt (C : Addr) (sp : Sp) (E : XK) (ta : TE) (t : TA) : TE := fun σ H Q => ta σ H fun x H1 => x = .ref C ∧ t σ H1 fun vs H2 => sp vs H2 Q E
theorem pe_stm {X : Cx} {CX : CXT} {C f : Addr} {m : Str} {fd : FuncData} {ps : List Str} {k : Nat} {sp : Sp} {E : XK} {o e : Expr} {es : List Expr} {pos apos : Pos} {ta : TE} {t : TA} {pl : Sem Bool} (he : PE X o ta) (M : StaM X.K C m f) (F : FnOk X.prog X.w X.K X.mg X.base CX k f fd ps sp) (hr : Room k X.A)
    (hb : L2.Binds X.K fd ps []) (hx : Passes CX X E) (ha : PA X (e :: es) t) (hst : starEach (e :: es) X.env = (false, eval e X.env) :: starEach es X.env := by rfl) (hpl : (backTo pos (starEach es X.env)).any (·.1) = false := by rfl)
    (ht : eval (.Call (.Attribute o m apos) (e :: es) [] pos) X.env = (do
      let cv ← eval o X.env
      standAt apos.atName
      let (f, first) ← holding [cv] (getMethod cv m pl)
      callWith pos f first (backTo pos (starEach (e :: es) X.env)) (backToKw pos (keywordEach [] X.env))) := by rfl) : PE X (.Call (.Attribute o m apos) (e :: es) [] pos) (tSt C sp E ta t) := by
  refine ⟨fun pins s σ H Q I h => ?_⟩
  refine PySem.W.methodCall_KW (pl := pl) (thn (he.run pins s σ H _ I h) fun u s1 ⟨x, H1, I1, rx, ex, q⟩ => ?_) ht
  subst ex
  obtain rfl : u = Value.ref C := rx
  obtain ⟨p, rest, hc, hrec⟩ := M.at_
  obtain ⟨m1, hF⟩ := I1.fr
  refine PySem.W.method_of_cls hF I1.ok.mod.kin M.sp (PySem.W.cls_sm hF I1.ok.mod.kin M.ty M.rd hc hrec rfl ?_)
  have I2 : L2.Inv X pins σ H1 { s1 with toks := s1.toks + 1 } := I1.kept (t' := s1.toks + 1) fun _ _ z => z
  refine PySem.W.callWith_K (first := []) (h₀ := X.base) I1.ok.mod.kin M.kp (thn (ha.run pos pins _ σ H1 _ I2 q) fun us s2 ⟨vs, H2, I3, r, q2⟩ => ⟨I3.kIn, ?_⟩) hst hpl
  exact run_fn (ds := []) (dvs := []) F hr hb .nil hx I3 r (by rw [List.append_nil]; exact q2)
end Own
set_option Elab.async false
set_option linter.all false
set_option maxRecDepth 100000
set_option maxHeartbeats 2000000
/-! try: several clauses, some with a name -/
namespace Own
open PySem PySem.Spec PyProof.Rows L2
theorem int_add {K : PySem.W.Frag} : PySem.W.findIn K (.type "int") (PySem.dunder (Operator.info .Add).2) = some (some (.builtin "int.__add__")) := by
  show PySem.fastLookup "int" _ = _
  kernel_rfl
theorem int_radd {K : PySem.W.Frag} : PySem.W.findIn K (.type "int") (dunderR (Operator.info .Add).2) = some (some (.builtin "int.__radd__")) := by
  show PySem.fastLookup "int" _ = _
  kernel_rfl
/-- an except clause: the class, the slot of its name if it has one, its suite -/
structure Clause where
  ex : Value
  slot : Option Nat
  act : Addr → Value → Option Addr → TS
/-- the ends of a suite behind which a name goes -/
def dropAt (i : Nat) (D : Ends) : Ends where
  nx := fun σ H => D.nx (σ.set i none) H
  rt := D.rt
  bk := fun σ H => D.bk (σ.set i none) H
  ct := fun σ H => D.ct (σ.set i none) H
def suiteOf (k : Clause) (a : Addr) (c : Value) (d : Option Addr) (D : Ends) (σ : L2.St) (H : Hp) : Prop := match k.slot with
  | none => k.act a c d D σ H
  | some i => k.act a c d (dropAt i D) (σ.set i (some (.ref a))) H
/-- the first clause that matches is done; none: the wish without -/
def wCl (K : PySem.W.Frag) (Wo : WX) (D : Ends) : List Clause → WX
  | [] => Wo
  | k :: r => fun c d σ H => ∃ b, PySem.W.exmOne K c k.ex = some b ∧ (b = true → ∀ a, H a = none → suiteOf k a c d D σ H) ∧ (b = false → wCl K Wo D r c d σ H)
def SuiteOk (X : Cx) (st : List Stmt) (ts : Addr → Value → Option Addr → TS) : Prop :=
  ∀ (a : Addr) (oe : Obj) (cls : Value) (d : Option Addr) (pn : List (Addr × Obj)), Zc cls d oe → (∃ fs, oe.data = .fields fs) → PSs (X.suite a ((a, oe) :: pn)) st (ts a cls d)
inductive Clauses (X : Cx) : List ExceptHandler → List Clause → Prop
  | nil : Clauses X [] []
  | plain {x : Str} {c : Value} {ts : Addr → Value → Option Addr → TS} {b : Stmt} {su : List Stmt} {np ps : Pos} {r : List ExceptHandler} {l : List Clause} (hc : Names X x c) (hu : SuiteOk X (b :: su) ts) (hr : Clauses X r l) :
      Clauses X (.ExceptHandler (some (.Name x np)) none (b :: su) ps :: r) (⟨c, none, ts⟩ :: l)
  | named {x n : Str} {i : Nat} {c : Value} {ts : Addr → Value → Option Addr → TS} {b : Stmt} {su : List Stmt} {np ps : Pos} {r : List ExceptHandler} {l : List Clause} (hi : X.N[i]? = some n) (hk : X.env.kindOf n = some .local) (hc : Names X x c) (hu : SuiteOk X (b :: su) ts) (hr : Clauses X r l) :
      Clauses X (.ExceptHandler (some (.Name x np)) (some n) (b :: su) ps :: r) (⟨c, some i, ts⟩ :: l)
section
variable {X : Cx} {pins : List (Addr × Obj)} {σ : L2.St} {H : Hp} {D : Ends} {Wo : WX} {sI s3 : Shared} {a : Addr} {B : Heap} {cls : Value} {d : Option Addr}
/-- what stands when an error has come to the try's clauses -/
structure Come (X : Cx) (pins : List (Addr × Obj)) (σ : L2.St) (H : Hp) (Wo : WX) (sI s3 : Shared) (a : Addr) (B : Heap) (cls : Value) (d : Option Addr) : Prop where
  ok : X.Ok
  stk : X.stack = X.env :: X.outer
  loc : X.env.frame = some X.env.locals
  nd : X.N.Nodup
  tk : Takes X Wo
  was : L2.Inv X pins σ H sI
  low : ∀ b o, sI.heap.get? b = some o → b ∉ frs X.stack → B.get? b = some o
  up : sI.heap.UpToSlots s3.heap
  fly : HandSPX.FlyingZ B (X.env :: X.outer) a (Zc cls d) s3.heap
  free : H a = none
  os : s3.os = sI.os
  bare : AllBare s3.gens
theorem Come.inv (c : Come X pins σ H Wo sI s3 a B cls d) : L2.Inv X pins σ H s3 := c.was.landed c.low c.fly.1 c.up c.os c.bare
theorem Come.on (c : Come X pins σ H Wo sI s3 a B cls d) {h : Heap} (f : HandSPX.FlyingZ B (X.env :: X.outer) a (Zc cls d) h) (u : s3.heap.UpToSlots h) : Come X pins σ H Wo sI { s3 with heap := h } a B cls d :=
  { c with up := c.up.trans u, fly := f }
theorem Come.suite (c : Come X pins σ H Wo sI s3 a B cls d) : ∃ oe fs, s3.heap.get? a = some oe ∧ Zc cls d oe ∧ oe.data = .fields fs ∧ L2.Inv (X.suite a ((a, oe) :: (X.pn ++ pins))) [] σ H s3 := by
  obtain ⟨oe, fs, g1, g2, g3⟩ := c.fly.there
  have off : a ∉ frs (X.env :: X.outer) := fun m => by
    obtain ⟨_, u, g4, no⟩ := c.fly.2.2.1.mem m
    rw [g1] at g4
    exact no fs (by rw [← Option.some.inj g4]; exact g3)
  refine ⟨oe, fs, g1, g2, g3, c.inv.suite g1 g3 c.free (fun z => off ?_) fun m => off ?_⟩
  · exact List.mem_filterMap.mpr ⟨X.env, List.mem_cons_self, by rw [c.loc, z]⟩
  · obtain ⟨e, m1, m2⟩ := List.mem_filterMap.mp m
    exact List.mem_filterMap.mpr ⟨e, List.mem_cons_of_mem _ m1, m2⟩
/-- the clause's class is looked at -/
theorem Come.test (c : Come X pins σ H Wo sI s3 a B cls d) {x : Str} {np : Pos} {k : Value} (hn : Names X x k) {Q E : Value → Shared → Prop} (q : Q k s3) : wpAny (model X.prog X.w) (X.A.mark (some (.ref a))) (eval (.Name x np) X.env) Q E s3 := by
  obtain ⟨oe, fs, _, _, _, J⟩ := c.suite
  obtain ⟨h1, h2, h3 | ⟨h3, h4, h5⟩⟩ := hn
  · exact ld_glob (X := X.suite a ((a, oe) :: (X.pn ++ pins))) J h1 h3 q h2
  · exact ld_blt (X := X.suite a ((a, oe) :: (X.pn ++ pins))) J h1 h3 h4 q h5 h2
theorem Come.match_ (c : Come X pins σ H Wo sI s3 a B cls d) {k : Value} {b : Bool} (e : PySem.W.exmOne X.K cls k = some b) {Q : Bool → Shared → Prop} {E : Value → Shared → Prop} {A : Around} (q : Q b s3) : wpAny (model X.prog X.w) A (excMatches (.ref a) k) Q E s3 := by
  obtain ⟨oe, fs, g1, g2, _, J⟩ := c.suite
  exact (PySem.W.exm_one (M := model X.prog X.w) J.kIn (fun _ _ _ _ kk q => wpAny_typeOf_ref (kk _ _ g1) (by rw [g2.1]; exact q)) e).here q
theorem Come.go (c : Come X pins σ H Wo sI s3 a B cls d) {hds : List ExceptHandler} {l : List Clause} (hh : Clauses X hds l) : wCl X.K Wo D l cls d σ H → wpAny (model X.prog X.w) X.A (handleBy (.ref a) X.env hds) (SP X pins D) X.xe s3 := by
  induction hh with
  | nil =>
    intro w
    refine wpAny_handleBy_nil ?_
    have f := c.fly
    obtain ⟨_, _, _, oe, fs, T, oT, ts, g1, g2, g3, g4, _⟩ := id f
    unfold PySem.passOn
    refine wpAny_bind (wpAny_field g1 g3 g4 ?_)
    rw [if_neg (by simp : ¬ ((Value.ref T == Value.none) = true))]
    have out : wpAny (model X.prog X.w) X.A (setFlight (.ref a) X.env.frame) (fun _ s4 => wpAny (model X.prog X.w) X.A (throw (.ref a) : Sem Flow) (SP X pins D) X.xe s4) X.xe s3 := by
      rw [c.loc]
      refine HandSPX.setFlight_upZ f fun h4 held u4 => wpAny_throw (c.tk _ _ ⟨a, B, sI, pins, σ, H, cls, d, rfl, c.was, c.low, c.up.trans u4, .inr (.inr ?_), c.free, c.os, c.bare, w⟩)
      rw [c.stk]; exact held
    first
      | exact wpAny_bind (wpAny_pure (wpAny_bind out))
      | exact wpAny_bind out
  | @plain x k ts b su np ps r l hc hu hr ih =>
    intro ⟨m, e, yes, no⟩
    refine wpAny_handleBy_cons (codeAny_handlers_test (c.test hc (c.match_ e ?_))) (fun z => by cases z)
    cases m with
    | false => exact ih (no rfl)
    | true =>
      refine codeAny_handlers_suite (HandSPX.lands_againZ c.fly fun h4 f4 u4 => ?_)
      obtain ⟨oe, fs, g1, g2, g3, J⟩ := (c.on f4 u4).suite
      refine wpAny_mono ((hu a oe cls d (X.pn ++ pins) g2 ⟨fs, g3⟩).run [] _ σ H D J (yes rfl a c.free)) (fun fl s6 z => ?_) fun _ _ z => z.elim
      cases fl with
      | ret u =>
        obtain ⟨v, σ6, H6, J6, rv, q⟩ := z
        exact ⟨v, σ6, H6, J6.unsuite c.ok, rv, q⟩
      | next => exact z.imp fun σ6 z => z.imp fun H6 z => ⟨z.1.unsuite c.ok, z.2⟩
      | brk => exact z.imp fun σ6 z => z.imp fun H6 z => ⟨z.1.unsuite c.ok, z.2⟩
      | cont => exact z.imp fun σ6 z => z.imp fun H6 z => ⟨z.1.unsuite c.ok, z.2⟩
  | @named x n i k ts b su np ps r l hi hk hc hu hr ih =>
    intro ⟨m, e, yes, no⟩
    refine wpAny_handleBy_cons (codeAny_handlers_test (c.test hc (c.match_ e ?_))) (fun z => by cases z)
    cases m with
    | false => exact ih (no rfl)
    | true =>
      refine codeAny_handlers_suite_as (HandSPX.lands_againZ c.fly fun h4 f4 u4 => ?_)
      obtain ⟨oe, fs, g1, g2, g3, J⟩ := (c.on f4 u4).suite
      refine store_ok (X := X.suite a ((a, oe) :: (X.pn ++ pins))) (v := .ref a) J c.nd hi (.inl hk) rfl (fun s5 J5 => ?_) (.inr hk)
      refine wpAny_mono ((hu a oe cls d (X.pn ++ pins) g2 ⟨fs, g3⟩).run [] s5 _ H (dropAt i D) J5 (yes rfl a c.free)) (fun fl s6 z => ?_) fun _ _ z => z.elim
      have gone : ∀ {σ6 : L2.St} {H6 : Hp} {Q : Shared → Prop}, L2.Inv (X.suite a ((a, oe) :: (X.pn ++ pins))) [] σ6 H6 s6 → (∀ s7, L2.Inv X pins (σ6.set i none) H6 s7 → Q s7) →
          wpAny (model X.prog X.w) X.A (do bindName X.env n .none; unbindBehindTheSuite X.env n ps) (fun _ s7 => Q s7) X.xe s6 := fun J6 q => gone_ok (J6.unsuite c.ok) c.nd hi hk q
      cases fl with
      | ret u =>
        obtain ⟨v, σ6, H6, J6, rv, q⟩ := z
        exact gone J6 fun s7 J7 => ⟨v, _, H6, J7, rv, q⟩
      | next => obtain ⟨σ6, H6, J6, q⟩ := z; exact gone J6 fun s7 J7 => ⟨_, H6, J7, q⟩
      | brk => obtain ⟨σ6, H6, J6, q⟩ := z; exact gone J6 fun s7 J7 => ⟨_, H6, J7, q⟩
      | cont => obtain ⟨σ6, H6, J6, q⟩ := z; exact gone J6 fun s7 J7 => ⟨_, H6, J7, q⟩
end
/-- try: body except X as n: .. except Y: .. -/
theorem ps_clauses {X : Cx} {body : List Stmt} {h0 : ExceptHandler} {hds : List ExceptHandler} {l : List Clause} {pos : Pos} {tb : WX → TS} {Wo : WX} (hs : X.stack = X.env :: X.outer) (hf : X.env.frame = some X.env.locals) (nd : X.N.Nodup) (tk : Takes X Wo)
    (hb : ∀ (W : WX) (pn : List (Addr × Obj)) (xe : Value → Shared → Prop), Takes (X.tr pn xe) W → PassesOwn (model X.prog X.w) X.A X.env xe → PSs (X.tr pn xe) body (tb W))
    (hh : Clauses X (h0 :: hds) l) : PS X (.Try body (h0 :: hds) [] [] pos) (fun D σ H => tb (wCl X.K Wo D l) D σ H) := by
  refine ⟨fun pins s σ H D I h => ?_⟩
  have okX := I.ok
  refine wpAny_Try_except (wpAny_mono ((hb (wCl X.K Wo D l) (X.pn ++ pins) (fun e s1 => wpAny (model X.prog X.w) X.A (noteFrame e X.env) (fun _ s2 => wpAny (model X.prog X.w) X.A (setFlight e none) (fun _ s3 =>
    wpAny (model X.prog X.w) X.A (handleBy e X.env (h0 :: hds)) (SP X pins D) X.xe s3) X.xe s2) X.xe s1) (fun u s1 z => ?_) PassesOwn.looking).run [] s σ H D (I.toTry _) h) (fun fl s1 z => ?_) fun e s1 z => z)
  · obtain ⟨a, B, sI, ps, σ1, H1, cls, d, rfl, J, low, up, sky, free, os, bare, w⟩ := z
    have K1 := J.ofTry okX
    have sk : Sky B (X.env :: X.outer) a (Zc cls d) X.env.locals s1.heap := by rw [← hs]; exact sky
    show wpAny (model X.prog X.w) X.A (noteFrame (.ref a) X.env) _ _ _
    refine Sky.land Zc.steady (by rw [okX.frames, hs]) hf sk fun h3 f3 u3 => ?_
    exact Come.go (sI := sI) (s3 := { s1 with heap := h3 }) (B := B) (Wo := Wo) ⟨okX, hs, hf, nd, tk, K1, low, up.trans u3, f3, free, os, bare⟩ hh w
  · cases fl with
    | next =>
      obtain ⟨σ1, H1, J, q⟩ := z
      exact wpAny_execs_nil ⟨σ1, H1, J.ofTry okX, q⟩
    | ret u =>
      obtain ⟨v, σ1, H1, J, rv, q⟩ := z
      exact ⟨v, σ1, H1, J.ofTry okX, rv, q⟩
    | brk => obtain ⟨σ1, H1, J, q⟩ := z; exact ⟨σ1, H1, J.ofTry okX, q⟩
    | cont => obtain ⟨σ1, H1, J, q⟩ := z; exact ⟨σ1, H1, J.ofTry okX, q⟩
end Own
set_option Elab.async false
set_option linter.all false
set_option maxRecDepth 100000
set_option maxHeartbeats 2000000
namespace Own
open PySem PySem.Spec PyProof.Rows L2
/-! ### o[i] with an own __getitem__ -/
def tItm (C : Addr) (sp : Sp) (E : XK) (ta tb : TE) : TE := tOp (fun x y H Q => ∃ a dx fs, x = V.ref a ∧ H a = some (.ins C dx fs) ∧ sp [x, y] H Q E) ta tb
theorem pe_itm {X : Cx} {CX : CXT} {C f : Addr} {fd : FuncData} {ps : List Str} {n : Nat} {sp : Sp} {E : XK} {a b : Expr} {ta tb : TE} {pos : Pos} (ha : PE X a ta) (F : FnOk X.prog X.w X.K X.mg X.base CX n f fd ps sp)
    (hs : PySem.W.findIn X.K (.ref C) "__getitem__" = some (some (.ref f))) (hfi : PySem.W.fnIn X.K f = true) (hf : PySem.W.isFn X.K (.ref f) = true) (hb : L2.Binds X.K fd ps []) (hx : Passes CX X E) (hr : Room (n + 1) X.A) (hp : PE X b tb)
    (hsl : ∀ o i, subscripted b true o i = runValue (.builtin "lifetime.subscript" ⟨[o, i], []⟩)) : PE X (.Subscript a b pos) (tItm C sp E ta tb) := by
  refine ⟨fun pins s σ H Q I h => ?_⟩
  refine Subscript_ (binT ha hp I h fun v u s2 x y H2 I2 rx ry q => ?_)
  obtain ⟨p, dx, fs, ex, hp2, hsp⟩ := q
  subst ex
  cases (show v = Value.ref p from rx)
  obtain ⟨mA, J, _⟩ := ins_get I2.hok hp2
  obtain ⟨od, J, _⟩ := J.look
  obtain ⟨m, hF⟩ := I2.fr
  refine PySem.W.sub_K hF I2.ok.mod.kin J hs hfi hf ?_ (hsl _ _)
  refine wpAny_mono (own_call F hb hx hr.in1 rfl I2 (x := .ref p) rfl ry hsp) (fun w s' h => ?_) fun _ _ h => h
  obtain ⟨z, H', rz, I', q⟩ := h
  exact ⟨z, H', I', rz, q⟩
/-! ### a, b = a list or a tuple -/
theorem pg_lt {X : Cx} {pos : Pos} {es : List Expr} {k : Nat} {t : TGs} {n : Nat} (hc : X.calm = true) (h : PGs X es t)
    (hn : (assignEach es X.env).length = n := by rfl) (hst : (assignEach es X.env).findIdx? (·.1) = none := by rfl) : PG X (.Tuple es k pos) (fun v σ H Q => gLst X.K n t v σ H Q ∨ gTup X.K n t v σ H Q) := by
  refine ⟨fun pins s σ H v u Q I r hw => ?_⟩
  rcases hw with hw | hw
  · exact (pg_lst hc h hn hst).run pins s σ H v u Q I r hw
  · exact (pg_tup hc h hn hst).run pins s σ H v u Q I r hw
end Own
namespace Own
open PySem PySem.Spec PyProof.Rows L2
def rIxLT (K : PySem.W.Frag) : R2 := fun x y H Q => rIxL K x y H Q ∨ rIxT K x y H Q
theorem ixLtOf {X : Cx} {K : PySem.W.Frag} (h : X.K = K) : IxR X (rIxLT K) := h ▸ ix_list.or ix_tup
end Own
set_option Elab.async false
set_option linter.all false
set_option maxRecDepth 100000
set_option maxHeartbeats 2000000
/-! == and != of own instances inside of a comprehension -/
namespace Own
open PySem PySem.Spec PyProof.Rows L2
variable {X : Cx} {CX : CXT} {K : PySem.W.Frag} {C f : Addr} {fd : FuncData} {ps : List Str} {n : Nat} {sp : Sp} {E : XK}
theorem eqOwnOf (hK : X.K = K) (F : FnOk X.prog X.w X.K X.mg X.base CX n f fd ps sp) (hs : PySem.W.findIn X.K (.ref C) "__eq__" = some (some (.ref f))) (hf : PySem.W.isFn X.K (.ref f) = true) (hb : L2.Binds X.K fd ps []) (hx : Passes CX X E) (hr : Room n X.A) :
    OpR X (compareOp .Eq) (rOwn K C sp E false) := by
  subst hK
  exact op_eqOwn F hs hf hb hx hr
theorem neOwnOf (hK : X.K = K) (F : FnOk X.prog X.w X.K X.mg X.base CX n f fd ps sp) (hne : PySem.W.findIn X.K (.ref C) "__ne__" = some (some (.builtin "object.__ne__"))) (hm : PySem.W.mroIn X.K C (.type "object") = some true)
    (hs : PySem.W.findIn X.K (.ref C) "__eq__" = some (some (.ref f))) (hf : PySem.W.isFn X.K (.ref f) = true) (hb : L2.Binds X.K fd ps []) (hx : Passes CX X E) (hr : Room (n + 1) X.A) :
    OpR X (compareOp .NotEq) (rOwn K C sp E true) := by
  subst hK
  exact op_neOwn F hne hm hs hf hb hx hr
end Own
set_option Elab.async false
set_option linter.all false
set_option maxRecDepth 100000
set_option maxHeartbeats 3200000
/-! set(xs) of texts, no two alike; its len -/
namespace Own
open PySem PySem.Spec PyProof.Rows L2
section
variable {prog : Program} {w : World} {A : Around} {E : Value → Shared → Prop} {s : Shared}
theorem memS {xs : List Str} {i : Nat} {x : Str} (e : xs[i]? = some x) (k : Str) : (decide (k ∈ xs.take i) || decide (k = x)) = decide (k ∈ xs.take (i + 1)) := by
  rw [List.take_succ, e, Bool.eq_iff_iff]
  simp [List.mem_append]
theorem fill_texts {I S : Addr} {fp wr : List Addr} {G : Array GenState → Array GenState → Prop} {n : Nat} {P : Nat → Value → Prop} {St : Nat → Shared → Prop} {R : Result → Shared → Prop} (W : WalksS prog w A.in1 I fp wr G n P St) (off : S ∉ fp)
    {xs : List Str} (len : xs.length = n) (nd : xs.Nodup) (few : n ≤ 64) (val : ∀ i v, P i v → ∃ x t, xs[i]? = some x ∧ v = .str x t) (out : ∀ s', Moved (S :: wr) G s s' → s'.heap.SetOf (strKind prog w) S (fun k => decide (k ∈ xs)) n → R (.ok (.ret .none)) s') :
    ∀ (m i : Nat) (z : Shared), i + m = n → St i z → z.heap.SetOf (strKind prog w) S (fun k => decide (k ∈ xs.take i)) i → (∀ z', Moved (S :: wr) G z z' → Moved (S :: wr) G s z') → codeAny (model prog w) A (.builtin "set.update.loop" ⟨[.ref S, .ref I], []⟩) R z
  | 0, i, z, hi, st, hs, back => by
    obtain rfl : i = n := hi
    refine codeAny_builtin F.entry_set_update_loop ?_
    rw [Around.under_plainId F.plain_set_update_loop _]
    refine wpAny_bind (m := pyNext (.ref I)) (W.done z _ _ st fun z' mv => wpAny_pure (out z' (back _ (mv.mono fun b hb => .tail _ hb)) ?_))
    obtain ⟨o, es, ep, t, ho, rest⟩ := hs
    rw [List.take_of_length_le (Nat.le_of_eq len)] at rest
    exact ⟨o, es, ep, t, mv.heap S _ (fun y => off (W.sub _ y)) ho, rest⟩
  | m + 1, i, z, hi, st, hs, back => by
    have lt : i < n := by omega
    refine codeAny_builtin F.entry_set_update_loop ?_
    rw [Around.under_plainId F.plain_set_update_loop _]
    refine wpAny_bind (m := pyNext (.ref I)) (W.item i z _ _ lt st fun v z' hp st' mv => ?_)
    obtain ⟨x, t, ex, rfl⟩ := val i v hp
    have old : z'.heap.SetOf (strKind prog w) S (fun k => decide (k ∈ xs.take i)) i := by
      obtain ⟨o, es, ep, tb, ho, rest⟩ := hs
      exact ⟨o, es, ep, tb, mv.heap S _ (fun y => off (W.sub _ y)) ho, rest⟩
    refine wpAny_bind (wpAny_holding (m := setAdd S (.str x t)) (wpAny_holding (wpAny_bind ((strKind prog w).pyHash (k := x) (strKind_is _ _ _ _) ?_))))
    refine wpAny_setAddHashed_of (knd := strKind prog w) (s := { z' with toks := z'.toks + 1 }) (strKind_is _ _ _ _) rfl old (by unfold scanBound; omega) fun h' only more => ?_
    have il : i < xs.length := by omega
    have fresh : x ∉ xs.take i := fun y => by
      obtain ⟨j, hj, e⟩ := List.getElem_of_mem y
      rw [List.length_take] at hj
      rw [List.getElem_take] at e
      rw [List.getElem?_eq_getElem il] at ex
      have := (List.getElem_inj nd).mp (e.trans (Option.some.inj ex).symm)
      omega
    have now : h'.SetOf (strKind prog w) S (fun k => decide (k ∈ xs.take (i + 1))) (i + 1) := SetOf_congr more (fun k => memS ex k) (by rw [decide_eq_false fresh]; rfl)
    refine wpAny_pure ⟨plainId_quiet F.plain_set_update_loop _, fill_texts W off len nd few val out m (i + 1) _ (by omega) (W.frame _ z' _ _ st' (Nat.le_succ _) fun b hb o e => ?_) now fun z2 mv2 => back _ (Moved.trans W.gtrans ((mv.mono fun b hb => .tail _ hb).then_heap (Nat.le_succ _) fun b o hb e => ?_) mv2)⟩
    · exact (only.2 b fun y => off (y ▸ hb)).trans e
    · exact (only.2 b fun y => hb (y ▸ .head _)).trans e
abbrev newSet (led : Bool) : Obj := { cls := .type "set", dict := none, data := .set #[] 0 (.fresh 0 0 led) }
/-- set(a): what is left is its __init__ -/
theorem set_called {a : Value} {Q : Value → Shared → Prop}
    (go : ∀ led : Bool, wpAny (model prog w) A.in1.in1 (Builtin.«set.__init__» ⟨[.ref s.heap.objs.size, a], []⟩) (fun fin z => match fin with | .done f => wants (fun r z => r = .none ∧ Q (.ref s.heap.objs.size) z) E (.ok f) z | .again c => c.quiet = true ∧ codeAny (model prog w) A.in1 c (wants (fun r z => r = .none ∧ Q (.ref s.heap.objs.size) z) E) z)
      (fun e z => wants (fun r z => r = .none ∧ Q (.ref s.heap.objs.size) z) E (.error e) z) { s with heap := s.heap.push (newSet led) }) : wpAny (model prog w) A (call (.type "set") [a]) Q E s := by
  obtain ⟨_, _, q1⟩ := F.called_set.mro
  have q2 := F.called_set.made
  have q3 := F.called_set.sub
  refine wpAny_call (codeAny_of_tree (show wpAny _ _ (callAny (.type "set") _) _ _ _ from wpAny_pure ⟨Code.quiet_builtin _ (by decide +kernel), codeAny_builtin F.entry_type_call ?_⟩))
  rw [Around.under_plain (weight_type_call_type "set" [a] []) rfl]
  have q4 := F.called_set.notType
  have q5 := F.called_set.canCreate
  have q6 := F.typeCall_set_1 a
  repeat (any_goals (first | assumption | wp_step))
  refine codeAny_mono (code_set_new_1 a (E := E) (Q₁ := fun ob z => ∃ led : Bool, ob = .ref s.heap.objs.size ∧ z = { s with heap := s.heap.push (newSet led) }) fun led => ⟨led, rfl, rfl⟩) fun r z hz => ?_
  match r, hz with
  | .error e, hz => exact hz
  | .ok (.ret ob), ⟨led, e1, e2⟩ =>
    subst e1
    subst e2
    have ty : Shared.TypeIs { s with heap := s.heap.push (newSet led) } (.ref s.heap.objs.size) "set" := ⟨_, Heap.get?_push_size _ rfl, rfl⟩
    have q7 := F.called_set.init.lookup
    have q8 := F.called_set.init.bind (.ref s.heap.objs.size)
    repeat (any_goals (first | assumption | wp_step))
    refine codeAny_mono (codeAny_call_builtin F.called_set.init.plain F.entry_set_init (check_set_init_1 ty (go led))) fun r2 z2 hz2 => ?_
    match r2, hz2 with
    | .error e, hz2 => exact hz2
    | .ok (.ret v), ⟨e1, hq⟩ =>
      subst e1
      repeat (any_goals (first | assumption | wp_step))
    | .ok .next, hz2 => exact hz2.elim
    | .ok .brk, hz2 => exact hz2.elim
    | .ok .cont, hz2 => exact hz2.elim
  | .ok .next, hz => exact hz.elim
  | .ok .brk, hz => exact hz.elim
  | .ok .cont, hz => exact hz.elim
theorem made_texts {l : Addr} {items : Array Value} {xs : List Str} {Q : Value → Shared → Prop} (hh : A.handled = none) (hl : s.heap.IsList l items ∨ s.heap.IsTuple l items) (hi : StrsAre items.toList xs) (nd : xs.Nodup) (few : xs.length ≤ 64)
    (h : ∀ (h' : Heap) (tk : Nat), h'.SetOf (strKind prog w) s.heap.objs.size (fun k => decide (k ∈ xs)) xs.length → (∀ b o, s.heap.get? b = some o → h'.get? b = some o) → Q (.ref s.heap.objs.size) { s with heap := h', toks := tk }) :
    wpAny (model prog w) A (call (.type "set") [.ref l]) Q E s := by
  have sz : xs.length = items.size := by rw [← StrsAre.len_eq hi, Array.length_toList]
  have val : ∀ (i : Nat) (v : Value), items[i]? = some v → ∃ x t, xs[i]? = some x ∧ v = .str x t := fun i v hv => by
    have lt : i < xs.length := by
      have := (Array.getElem?_eq_some_iff.mp hv).1
      omega
    obtain ⟨t, e⟩ := SS.strs_at hi i v (by rw [Array.getElem?_toList]; exact hv)
    refine ⟨xs[i], t, List.getElem?_eq_getElem lt, ?_⟩
    rw [e, List.getD_eq_getElem?_getD, List.getElem?_eq_getElem lt]; rfl
  refine set_called fun led => ?_
  have n3 : A.in1.in1.in1.handled = none := by simp [hh]
  rcases hl with hl | hl
  · have q1 := F.sub_list_set
    have q2 := F.sub_list_frozenset
    have q3 : (Value.type "list" == Value.type "dict") = false := by decide
    obtain ⟨ob, ho, hc, nl, hd⟩ := hl
    obtain ⟨cl, od, da, sl⟩ := ob
    dsimp only at hc hd
    subst hc
    subst hd
    have lo := Heap.lt_size ho
    have ho2 : (s.heap.push (newSet led)).get? l = some { cls := .type "list", dict := od, data := .seq items nl, slots := sl } := Heap.get?_push_of_some _ ho
    have at_ : (s.heap.push (newSet led)).IsList l items := ⟨_, ho2, rfl, nl, rfl⟩
    unfold Builtin.«set.__init__» noKeywords Builtin.Frozenset.updateFrom
    generalize hPI : pyIter = PI
    wp_walk
    subst hPI
    refine wpAny_pyIter_list at_ (wpAny_bind (wpAny_runValue ?_))
    have off : l ≠ (s.heap.push (newSet led)).objs.size := by rw [Heap.size_push]; exact Nat.ne_of_lt (Nat.lt_succ_of_lt lo)
    have off2 : s.heap.objs.size ∉ [(s.heap.push (newSet led)).objs.size, l] := by
      rw [Heap.size_push]
      exact fun m => (List.mem_cons.mp m).elim (Nat.ne_of_lt (Nat.lt_succ_self _)) fun m => Nat.ne_of_gt lo (List.mem_singleton.mp m)
    refine fill_texts ((Walks.list n3 _ l off items).toS) off2 sz nd (by omega) val (fun z' mv hz' => ?_) _ 0 _ (Nat.zero_add _) ⟨⟨_, Heap.get?_push_size _ rfl, rfl, rfl⟩, at_.push _⟩ ?_ fun _ mv => mv
    · obtain ⟨h', g', d', tk', os'⟩ := z'
      obtain rfl : g' = s.gens := mv.gens
      obtain rfl : d' = s.drawn := mv.drawn
      obtain rfl : os' = s.os := mv.os
      show wpAny _ _ _ _ _ _
      refine wpAny_pure ?_
      show wpAny _ _ (ret Value.none) _ _ _
      refine wpAny_pure ⟨rfl, h h' tk' (by rw [sz]; exact hz') fun b o e => ?_⟩
      have lb := Heap.lt_size e
      refine mv.heap b o (fun m => ?_) (Heap.get?_push_of_some _ (Heap.get?_push_of_some _ e))
      rcases List.mem_cons.mp m with m | m
      · exact Nat.ne_of_lt lb m
      · rw [Heap.size_push] at m
        exact Nat.ne_of_lt (Nat.lt_succ_of_lt lb) (List.mem_singleton.mp m)
    · have got : ((s.heap.push (newSet led)).push { cls := .type "list_iterator", data := .fields #[.ref l, .int 0 0] }).get? s.heap.objs.size = some (newSet led) := Heap.get?_push_of_some _ (Heap.get?_push_size _ rfl)
      exact SetOf_congr ((setObjOf_fresh (knd := strKind prog w) led).setOf got (by unfold scanBound; omega)) (fun k => by simp) rfl
  · have q1 := F.sub_tuple_set
    have q2 := F.sub_tuple_frozenset
    have q3 : (Value.type "tuple" == Value.type "dict") = false := by decide
    obtain ⟨ob, ho, hc, nl, hd⟩ := hl
    obtain ⟨cl, od, da, sl⟩ := ob
    dsimp only at hc hd
    subst hc
    subst hd
    have lo := Heap.lt_size ho
    have ho2 : (s.heap.push (newSet led)).get? l = some { cls := .type "tuple", dict := od, data := .seq items nl, slots := sl } := Heap.get?_push_of_some _ ho
    have at_ : (s.heap.push (newSet led)).IsTuple l items := ⟨_, ho2, rfl, nl, rfl⟩
    unfold Builtin.«set.__init__» noKeywords Builtin.Frozenset.updateFrom
    generalize hPI : pyIter = PI
    wp_walk
    subst hPI
    refine wpAny_pyIter_tuple at_ (wpAny_bind (wpAny_runValue ?_))
    have off : l ≠ (s.heap.push (newSet led)).objs.size := by rw [Heap.size_push]; exact Nat.ne_of_lt (Nat.lt_succ_of_lt lo)
    have off2 : s.heap.objs.size ∉ [(s.heap.push (newSet led)).objs.size, l] := by
      rw [Heap.size_push]
      exact fun m => (List.mem_cons.mp m).elim (Nat.ne_of_lt (Nat.lt_succ_self _)) fun m => Nat.ne_of_gt lo (List.mem_singleton.mp m)
    refine fill_texts ((Walks.tuple n3 _ l off items).toS) off2 sz nd (by omega) val (fun z' mv hz' => ?_) _ 0 _ (Nat.zero_add _) ⟨⟨_, Heap.get?_push_size _ rfl, rfl, rfl⟩, at_.push _⟩ ?_ fun _ mv => mv
    · obtain ⟨h', g', d', tk', os'⟩ := z'
      obtain rfl : g' = s.gens := mv.gens
      obtain rfl : d' = s.drawn := mv.drawn
      obtain rfl : os' = s.os := mv.os
      show wpAny _ _ _ _ _ _
      refine wpAny_pure ?_
      show wpAny _ _ (ret Value.none) _ _ _
      refine wpAny_pure ⟨rfl, h h' tk' (by rw [sz]; exact hz') fun b o e => ?_⟩
      have lb := Heap.lt_size e
      refine mv.heap b o (fun m => ?_) (Heap.get?_push_of_some _ (Heap.get?_push_of_some _ e))
      rcases List.mem_cons.mp m with m | m
      · exact Nat.ne_of_lt lb m
      · rw [Heap.size_push] at m
        exact Nat.ne_of_lt (Nat.lt_succ_of_lt lb) (List.mem_singleton.mp m)
    · have got : ((s.heap.push (newSet led)).push { cls := .type "tuple_iterator", data := .fields #[.ref l, .int 0 0] }).get? s.heap.objs.size = some (newSet led) := Heap.get?_push_of_some _ (Heap.get?_push_size _ rfl)
      exact SetOf_congr ((setObjOf_fresh (knd := strKind prog w) led).setOf got (by unfold scanBound; omega)) (fun k => by simp) rfl
end
/-- set(xs), only for its len: a list or a tuple of texts, no two alike -/
def tLenTexts (K : PySem.W.Frag) (ta : TE) : TE := fun σ H Q => ta σ H fun x H1 => ∃ l, ∃ xs : List Str, x = .ref l ∧ (SqL K H1 l (xs.map V.str) ∨ SqT K H1 l (xs.map V.str)) ∧ xs.Nodup ∧ xs.length ≤ 64 ∧ Q (.int xs.length) H1
theorem pe_lenTexts {X : Cx} {a : Expr} {ta : TE} {p p2 q pos : Pos} (hc : X.calm = true) (hg : Gl X "len") (hm : X.mg "len" = none) (hg2 : Gl X "set") (hm2 : X.mg "set" = none) (ha : PE X a ta)
    (na : starEach [a] X.env = (false, eval a X.env) :: starEach [] X.env := by rfl) : PE X (.Call (.Name "len" p) [.Call (.Name "set" p2) [a] [] q] [] pos) (tLenTexts X.K ta) := by
  refine ⟨fun pins s σ H Q I h => Call_ (ld_blt I hg hm boot_len ?_)⟩
  refine callWith_builtin1 (args_cons (Call_ (ld_blt I hg2 hm2 boot_set ?_)) rfl) rfl rfl
  refine callWith_type1 (args_cons (thn (ha.run pins s σ H _ I h) fun v z ⟨x, H1, J, r1, q1⟩ => args_nil ?_) na) na rfl
  obtain ⟨l, xs, ex, hq, nd, few, q1⟩ := q1
  subst ex
  cases (show v = Value.ref l from r1)
  have fin : ∀ (h' : Heap) (tk : Nat), h'.SetOf (strKind X.prog X.w) z.heap.objs.size (fun k => decide (k ∈ xs)) xs.length → (∀ b o, z.heap.get? b = some o → h'.get? b = some o) →
      wpAny (model X.prog X.w) X.A (spliced (backTo pos (starEach [] X.env))) (fun vs y => wpAny (model X.prog X.w) X.A (call (.builtin "len") (Value.ref z.heap.objs.size :: vs)) (EP X pins σ Q) X.xe y) X.xe { z with heap := h', toks := tk } := fun h' tk hS hk => by
    refine args_nil ?_
    obtain ⟨o, es, ep, t, ho, hex, hd, _, _, _, hf, hn⟩ := hS
    have J2 : L2.Inv X pins σ H1 { z with heap := h', toks := tk } := J.kept fun b o e => hk b o e
    exact call_len_set ho hex hd hf (by rw [hn] <;> omega) ⟨.int xs.length, H1, J2.tok _, ⟨_, by rw [hn]⟩, q1⟩
  rcases hq with hq | hq
  · obtain ⟨its, r, pl, _⟩ := J.list hq
    exact made_texts (J.ok.hd hc) (.inl pl.isList) (by simpa using L2.strsAre_of r) nd few fin
  · obtain ⟨its, r, pl, _⟩ := J.tuple hq
    exact made_texts (J.ok.hd hc) (.inr pl) (by simpa using L2.strsAre_of r) nd few fin
end Own
set_option Elab.async false
set_option linter.all false
set_option maxRecDepth 100000
set_option maxHeartbeats 2000000
/-! == of dicts whose values are data -/
namespace Own
open PySem PySem.Spec PyProof.Rows L2
def dfind (ls : List (Key × PyData)) (k : Key) : Option PyData := (ls.find? fun p => decide (p.1 = k)).map (·.2)
def eqKD (ks ls : List (Key × PyData)) : Bool := ks.all fun p => match dfind ls p.1 with | some u => PyData.eqv p.2 u | none => false
def DVal (K : PySem.W.Frag) (H : Hp) (kv : Key × V) (kd : Key × PyData) : Prop := kv.1 = kd.1 ∧ Dp K H kv.2 kd.2 ∧ SeqAt.shaped kd.2 = true ∧ kd.2.depth ≤ 8
theorem dval_find {K : PySem.W.Frag} {H : Hp} (k : Key) : ∀ {ls : List (Key × V)} {ds : List (Key × PyData)}, Paired (DVal K H) ls ds → (valV ls k = none ∧ dfind ds k = none) ∨ ∃ v d, valV ls k = some v ∧ dfind ds k = some d ∧ Dp K H v d ∧ SeqAt.shaped d = true
  | [], [], .nil => .inl ⟨rfl, rfl⟩
  | kv :: ls, kd :: ds, .cons h t => by
    by_cases e : kv.1 = k
    · exact .inr ⟨kv.2, kd.2, valV_pos e, by unfold dfind; rw [List.find?_cons_of_pos (by rw [← h.1]; exact decide_eq_true e)]; rfl, h.2.1, h.2.2.1⟩
    · have e2 : dfind (kd :: ds) k = dfind ds k := by unfold dfind; rw [List.find?_cons_of_neg (by rw [← h.1]; simpa using e)]
      rw [valV_neg e, e2]
      exact dval_find k t
theorem hits_data {X : Cx} {pins : List (Addr × Obj)} {σ : L2.St} {H : Hp} {s : Shared} (I : L2.Inv X pins σ H s) {A : Around} (hu : A.units + 8 < cLine) {ls : List (Key × V)} {lsd : List (Key × PyData)} {vb : List (Key × Value)} (rb : KV ls vb) (fl : Paired (DVal X.K H) ls lsd) {ks : List (Key × V)} {va : List (Key × Value)}
    (ra : KV ks va) : ∀ {ksd : List (Key × PyData)}, Paired (DVal X.K H) ks ksd → PySem.W.KeqHitsP X.prog X.w A s vb va (eqKD ksd lsd) := by
  unfold KV at ra
  induction ra with
  | nil => intro ksd h; cases h; exact .nil
  | @cons p q ps qs h t k =>
    intro ksd hk
    cases hk with
    | @cons _ kd _ ds hd ht =>
      obtain ⟨h1, h2⟩ := h
      obtain ⟨key, v⟩ := q
      have h1' : p.1 = key := h1
      have rest := k ht
      have rr : RelO (valV ls p.1) (valueAt vb p.1) := rb.val p.1
      have e0 : eqKD (kd :: ds) lsd = ((match dfind lsd kd.1 with | some u => PyData.eqv kd.2 u | none => false) && eqKD ds lsd) := rfl
      rw [e0, ← hd.1]
      rcases dval_find p.1 fl with ⟨e1, e2⟩ | ⟨u, d, e1, e2, hp, hs⟩
      · rw [e1] at rr
        rw [e2]
        refine .miss ?_
        rw [← h1']
        cases hv : valueAt vb p.1 with
        | none => rfl
        | some z => rw [hv] at rr; exact rr.elim
      · rw [e1] at rr
        rw [e2]
        obtain ⟨y, hy, ry⟩ := rr.some_of
        rw [h1'] at hy
        obtain ⟨as, r1⟩ := Dp.reads I kd.2 p.2 v hd.2.1 h2
        obtain ⟨bs, r2⟩ := Dp.reads I d u y hp ry
        refine .hit hy (SeqAt.EqAt.eqP (b := PyData.eqv kd.2 d) ?_) rest
        exact SeqAt.eqAt_reads kd.2 d A s v y as bs r1 r2 (SeqAt.canLay_of_shaped hd.2.2.1) (SeqAt.canLay_of_shaped hs) (by have := hd.2.2.2; have : min kd.2.depth d.depth ≤ kd.2.depth := Nat.min_le_left _ _; omega)
def rEqDD (K : PySem.W.Frag) : R2 := fun x y H Q => ∃ a b ks ls ksd lsd, x = .ref a ∧ y = .ref b ∧ H a = some (.dK ks) ∧ H b = some (.dK ls) ∧ Paired (DVal K H) ks ksd ∧ Paired (DVal K H) ls lsd ∧ Q (.bl (ks.length == ls.length && eqKD ksd lsd)) H
theorem op_eqDD {X : Cx} (hu : X.A.units + 64 < cLine) : OpR X (compareOp .Eq) (rEqDD X.K) := by
  intro pins s σ H x y v u Q I rx ry ⟨a, b, ks, ls, ksd, lsd, ex, ey, ha, hb, f1, f2, q⟩
  subst ex
  subst ey
  cases (show v = Value.ref a from rx)
  cases (show u = Value.ref b from ry)
  obtain ⟨_, ya, va, ra, da⟩ := (show ObjOk X.prog X.w H s.heap a (.dK ks) from I.hok a _ ha)
  obtain ⟨_, yb, vb, rb, db⟩ := (show ObjOk X.prog X.w H s.heap b (.dK ls) from I.hok b _ hb)
  have la : ks.length = va.length := by unfold KV at ra; exact ra.length
  have lb : ls.length = vb.length := by unfold KV at rb; exact rb.length
  refine PySem.W.rcP_dicts (knd := mixKind X.prog X.w) (r := eqKD ksd lsd) ya yb da db (by omega) (fun _ => hits_data I (A := X.A.in1) (by show X.A.units + 1 + 8 < cLine; omega) rb f2 ra f1) _ _ ?_
  rw [← la, ← lb]
  exact ⟨.bl _, H, I, rfl, q⟩
end Own
set_option Elab.async false
set_option linter.all false
set_option maxRecDepth 100000
set_option maxHeartbeats 2000000
/-! x in o with an own __contains__ -/
namespace Own
open PySem PySem.Spec PyProof.Rows L2
def rInOwn (C : Addr) (sp : Sp) (E : XK) : R2 := fun x y H Q => ∃ a dx fs, y = .ref a ∧ H a = some (.ins C dx fs) ∧ sp [y, x] H (fun v H' => ∃ b : Bool, v = .bl b ∧ Q (.bl b) H') E
theorem op_inOwn {X : Cx} {CX : CXT} {C f : Addr} {fd : FuncData} {ps : List Str} {n : Nat} {sp : Sp} {E : XK} (F : FnOk X.prog X.w X.K X.mg X.base CX n f fd ps sp) (hs : PySem.W.findIn X.K (.ref C) "__contains__" = some (some (.ref f))) (hf : PySem.W.isFn X.K (.ref f) = true) (hb : L2.Binds X.K fd ps []) (hx : Passes CX X E) (hr : Room (n + 1) X.A) :
    OpR X (compareOp .In) (rInOwn C sp E) := by
  intro pins s σ H x y u v Q I rx ry ⟨a, dx, fs, ey, ha, hsp⟩
  subst ey
  cases (show v = Value.ref a from ry)
  obtain ⟨mA, J, _⟩ := ins_get I.hok ha
  obtain ⟨od, J, _⟩ := J.look
  refine wpAny_bind (m := contains (.ref a) u) ?_
  unfold contains
  refine wpAny_holding ?_
  dsimp only [stdlibNamesSay?]
  unfold callSpecialUnlessNone? specialOf
  refine wpAny_bind (wpAny_bind (J.type.here ((PySem.W.looks_findIn I.kIn hs).here ?_)))
  show wpAny _ _ (if (some (Value.ref f) == some Value.none) = true then _ else _) _ _ _
  rw [if_neg (by simp)]
  refine wpAny_bind (wpAny_bind (wpAny_bind (J.type.here ((PySem.W.looks_findIn I.kIn hs).here ?_))))
  refine wpAny_holding (wpAny_bind ((PySem.W.bind_fn I.kIn _ (beq_iff_eq.mp hf)).here ?_))
  show wpAny _ _ (if (Value.ref f == Value.none) = true then _ else _) _ _ _
  rw [if_neg (by simp)]
  refine wpAny_bind (wpAny_mono (own_call (A := X.A) F hb hx (hr.mono (by omega)) rfl I (x := .ref a) rfl rx hsp) (fun w s' h => ?_) fun _ _ h => h)
  obtain ⟨z, H', rz, I', b, ez, q⟩ := h
  subst ez
  cases (show w = Value.bool b from rz)
  exact wpAny_pure (wpAny_truthy_bool (wpAny_pure ⟨.bl b, H', I', rfl, q⟩))
theorem inOwnOf {X : Cx} {CX : CXT} {K : PySem.W.Frag} {C f : Addr} {fd : FuncData} {ps : List Str} {n : Nat} {sp : Sp} {E : XK} (_ : X.K = K) (F : FnOk X.prog X.w X.K X.mg X.base CX n f fd ps sp) (hs : PySem.W.findIn X.K (.ref C) "__contains__" = some (some (.ref f))) (hf : PySem.W.isFn X.K (.ref f) = true) (hb : L2.Binds X.K fd ps []) (hx : Passes CX X E) (hr : Room (n + 1) X.A) :
    OpR X (compareOp .In) (rInOwn C sp E) := op_inOwn F hs hf hb hx hr
end Own
set_option Elab.async false
set_option linter.all false
set_option maxRecDepth 100000
set_option maxHeartbeats 2000000
/-! len(o) with an own __len__; t[::-1] of a tuple -/
namespace Own
open PySem PySem.Spec PyProof.Rows L2 PySem.W
section
variable {X : Cx} {C g : Addr} {gd : FuncData} {qs : List Str} {m : Nat} {sl : Sp} {E : XK}
/-- the number that an own __len__ tells -/
def LenIs (n : Nat) (H : Hp) : VK := fun v H' => v = .int n ∧ H' = H
theorem len_is (F : FnOk X.prog X.w X.K X.mg X.base CX0 m g gd qs sl) (hb : L2.Binds X.K gd qs []) {A : Around} (hr : Room (m + 1) A) (hfr : A.frames = X.A.frames)
    (hs : PySem.W.findIn X.K (.ref C) "__len__" = some (some (.ref g))) (hf : PySem.W.isFn X.K (.ref g) = true) {pins : List (Addr × Obj)} {s : Shared} {σ : L2.St} {H : Hp} {a dx : Addr} {fs : List (Str × V)} {k : Nat} (I : L2.Inv X pins σ H s) (ha : H a = some (.ins C dx fs)) (hk : k ≤ sizeLine) (hsp : sl [.ref a] H (LenIs k H) E) :
    wpAny (model X.prog X.w) A (call (.builtin "len") [.ref a]) (fun r s' => ∃ t : Tok, r = .int k t ∧ L2.Inv X pins σ H s') (fun _ _ => False) s := by
  obtain ⟨mA, J, _⟩ := ins_get I.hok ha
  obtain ⟨od0, J, _⟩ := J.look
  refine Calls.call_function_entry kind_len plain_len entry_len (args_len1 _) ?_
  unfold Builtin.«len»
  refine wpAny_bind (m := oneArg "len" _) (wpAny_pure ?_)
  refine wpAny_bind (m := callSpecial? (.ref a) (PySem.Str.ofString "__len__")) ?_
  unfold callSpecial? specialOf
  refine wpAny_bind (wpAny_bind (J.type.here ((PySem.W.looks_findIn I.kIn hs).here ?_)))
  refine wpAny_holding (wpAny_bind ((PySem.W.bind_fn I.kIn _ (beq_iff_eq.mp hf)).here ?_))
  refine wpAny_bind (wpAny_mono (own_call1 (A := A.in1) F hb (Room.in1 hr) hfr I (x := .ref a) rfl hsp) (fun w s' h => ?_) fun _ _ h => h)
  obtain ⟨z, H', rz, I', ez, eH⟩ := h
  subst ez
  subst eH
  obtain ⟨t, rfl⟩ := (show ∃ t, w = Value.int k t from rz)
  have hz : sizeLine = 16777216 := sizeLine_eq
  refine wpAny_pure (wpAny_bind (wpAny_holding (wpAny_pure ?_)))
  refine wpAny_bind (wpAny_letGo ?_)
  show wpAny _ _ (if ((k : Nat) : Int) < 0 then _ else _) _ _ _
  rw [if_neg (by omega)]
  show wpAny _ _ (if ((k : Nat) : Int) ≥ 2 ^ 63 then _ else _) _ _ _
  rw [if_neg (by omega)]
  exact wpAny_bind (wpAny_mkInt (wpAny_pure ⟨_, rfl, _, rfl, I'.tok _⟩))
def rLenOwn (C : Addr) (sl : Sp) (E : XK) : List V → Hp → VK → Prop := fun xs H Q => ∃ a dx fs n, xs = [.ref a] ∧ H a = some (.ins C dx fs) ∧ n ≤ sizeLine ∧ sl [.ref a] H (LenIs n H) E ∧ Q (.int (n : Nat)) H
theorem call_lenOwn (F : FnOk X.prog X.w X.K X.mg X.base CX0 m g gd qs sl) (hb : L2.Binds X.K gd qs []) (hr : Room (m + 1) X.A)
    (hs : PySem.W.findIn X.K (.ref C) "__len__" = some (some (.ref g))) (hf : PySem.W.isFn X.K (.ref g) = true) : CallR X (.builtin "len") (rLenOwn C sl E) := by
  rintro pins s σ H xs us Q I r ⟨a, dx, fs, n, rfl, ha, hn, hsp, q⟩
  obtain rfl := Vals.ref1 r
  exact wpAny_mono (len_is F hb hr rfl hs hf I ha hn hsp) (fun r s' ⟨t, e, I'⟩ => ⟨.int n, H, I', by rw [e]; exact ⟨t, rfl⟩, q⟩) fun _ _ h => h.elim
end
section
variable {prog : Program} {w : World} {A : Around} {E : Value → Shared → Prop} {s : Shared}
theorem places_rev (n : Nat) : Builtin.Slice.slicePlaces ((n : Int) - 1) (-1) (-1) = n := by
  unfold Builtin.Slice.slicePlaces
  have h1 : ¬ ((-1 : Int) > 0) := by omega
  simp only [h1, if_false]
  rw [show (- -1 : Int) = 1 by decide, Int.ediv_one]
  split <;> omega
theorem applied_rev {sl : Addr} {vl vu vs : Value} {n : Nat} {Q : Int × Int × Nat → Shared → Prop} (hs : s.heap.IsSliceOf sl vl vu vs) (pl : IsPart vl none) (pu : IsPart vu none) (ps : IsPart vs (some (-1)))
    (h : Q (((n : Nat) : Int) - 1, -1, n) s) : wpAny (model prog w) A (Builtin.Slice.sliceApplied (.ref sl) (pure (n : Int))) Q E s := by
  obtain ⟨os, hos, hcs, hds⟩ := id hs
  unfold Builtin.Slice.sliceApplied Builtin.Slice.sliceFields
  refine wpAny_bind (wpAny_bind (wpAny_field hos hds (x := vl) rfl (wpAny_bind (wpAny_field hos hds (x := vu) rfl (wpAny_bind (wpAny_field hos hds (x := vs) rfl (wpAny_pure ?_)))))))
  refine wpAny_bind (HT.slicePart_ ps ?_)
  show wpAny _ _ (if ((-1 : Int) == 0) = true then _ else _) _ _ s
  rw [if_neg (by decide)]
  refine wpAny_bind (HT.slicePart_ pl (wpAny_bind (HT.slicePart_ pu (wpAny_bind (wpAny_pure ?_)))))
  show wpAny _ _ (pure (((n : Int) - 1), (-1 : Int), Builtin.Slice.slicePlaces ((n : Int) - 1) (-1) (-1))) _ _ s
  rw [places_rev]
  exact wpAny_pure h
theorem pick_rev (xs : Array Value) : ((List.range xs.size).filterMap fun (m : Nat) => xs[(((xs.size : Nat) : Int) - 1 + (m : Int) * -1).toNat]?).toArray = xs.toList.reverse.toArray := by
  have e : ((List.range xs.size).filterMap fun (m : Nat) => xs[(((xs.size : Nat) : Int) - 1 + (m : Int) * -1).toNat]?) = ((List.range xs.size).map fun k => xs.size - 1 - k).filterMap (xs[·]?) := by
    rw [List.filterMap_map]
    refine congrArg (fun f => List.filterMap f _) (funext fun m => ?_)
    show xs[(((xs.size : Nat) : Int) - 1 + (m : Int) * -1).toNat]? = xs[xs.size - 1 - m]?
    by_cases h : m < xs.size
    · rw [show (((xs.size : Nat) : Int) - 1 + (m : Int) * -1).toNat = xs.size - 1 - m by omega]
    · rw [show (((xs.size : Nat) : Int) - 1 + (m : Int) * -1).toNat = xs.size - 1 - m by omega]
  rw [e, krv_range, List.filterMap_reverse, krv_all]
theorem getItem_tuple_rev {t sl : Addr} {items : Array Value} {vl vu vs : Value} {Q : Value → Shared → Prop} (ht : IsTup s.heap t items) (hs : s.heap.IsSliceOf sl vl vu vs) (pl : IsPart vl none) (pu : IsPart vu none) (ps : IsPart vs (some (-1)))
    (h : Q (.ref s.heap.objs.size) { s with heap := s.heap.push { cls := .type "tuple", data := .seq items.toList.reverse.toArray } })
    (hsz : items.size ≤ sizeLine) : wpAny (model prog w) A (getItem (.ref t) (.ref sl)) Q E s := by
  have htake : sizeOk (.seq items.toList.reverse.toArray) := by
    show items.toList.reverse.toArray.size ≤ sizeLine
    rw [List.size_toArray, List.length_reverse, Array.length_toList]
    exact hsz
  obtain ⟨os, hos, hcs, hds⟩ := id hs
  have hTs : s.TypeIs (.ref sl) "slice" := ⟨os, hos, hcs⟩
  unfold getItem
  try with_reducible refine wpAny_holding ?_
  first | refine wpAny_bind (wpAny_pure ?_) | skip
  refine wpAny_bind (wpAny_sequenceKey ht.typeIs (by decide) ?_)
  refine wpAny_bind (wpAny_callSpecial?_slot (name := Str.ofString "__getitem__") ht.typeIs PyProof.Rows.slot_tuple_getitem
    (wpAny_call_entry PyProof.Rows.slot_tuple_getitem ht.typeIs PyProof.Rows.entry_tuple_getitem ?_ (PyProof.Rows.args_tuple_getitem _ _)))
  show wpAny _ _ (Builtin.Tuple.tupleItemsOf (.ref t) >>= _) _ _ s
  refine wpAny_bind (tupleItemsOf_ ht ?_)
  refine wpAny_bind (wpAny_typeOf hTs ?_)
  rw [if_pos (by decide)]
  refine wpAny_bind (applied_rev hs pl pu ps ?_)
  have hno : ¬ ((((items.size : Int) - 1) == 0 && (-1 : Int) == 1 && items.size == items.size) = true) := by
    intro q
    rw [Bool.and_eq_true, Bool.and_eq_true] at q
    exact absurd (eq_of_beq q.1.2) (by decide)
  show wpAny _ _ (if (((items.size : Int) - 1) == 0 && (-1 : Int) == 1 && items.size == items.size) = true then _ else _) _ _ s
  rw [if_neg hno, pick_rev]
  first
    | exact wpAny_bind (m := Builtin.Tuple.tupleExact _) (wpAny_newObj_type (wpAny_pure ⟨_, rfl, wpAny_pure h⟩) htake)
    | exact wpAny_bind (m := Builtin.Tuple.tupleExact _) (wpAny_newObj_type (wpAny_bind (wpAny_pure (wpAny_pure ⟨_, rfl, wpAny_pure h⟩))) htake)
    | exact wpAny_bind (wpAny_bind (m := Builtin.Tuple.tupleExact _) (wpAny_newObj_type (wpAny_pure (wpAny_pure ⟨_, rfl, wpAny_pure h⟩)) htake))
    | exact wpAny_bind (wpAny_bind (m := Builtin.Tuple.tupleExact _) (wpAny_newObj_type (wpAny_pure ⟨_, rfl, wpAny_pure h⟩) htake))
end
def tRevT (K : PySem.W.Frag) (te : TE) : TE := fun σ H Q => te σ H fun x H1 => ∃ a xs, x = .ref a ∧ SqT K H1 a xs ∧ ∀ p, H1 p = none → Q (.ref p) (upd H1 p (.tup xs.reverse))
theorem pe_revT {X : Cx} {e : Expr} {te : TE} {k : Nat} {p1 p2 p3 pos : Pos} (he : PE X e te) : PE X (.Subscript e (.Slice none none (some (.UnaryOp .USub (.Constant (.int 1) k p1) p2)) p3) pos) (tRevT X.K te) := by
  refine ⟨fun pins s σ H Q I h => ?_⟩
  refine Subscript_ (thn (he.run pins s σ H _ I h) fun v s1 ⟨x, H1, I1, r1, q1⟩ => ?_)
  obtain ⟨a, xs, ex, hx, q⟩ := q1
  subst ex
  cases r1
  have hst : PO X (some (.UnaryOp .USub (.Constant (.int 1) k p1) p2)) (tPart (tUn (rU fun i => .int (-i)) (tC (.int 1)))) := po_some (pe_un un_neg pe_int)
  refine wpAny_Slice (thn (po_none.run pins s1 σ H1 (fun o H2 => o = none ∧ H2 = H1) I1 ⟨rfl, rfl⟩) fun vl s2 ⟨l, H2, I2, pl, el, e2⟩ => ?_)
  subst el e2
  refine thn (po_none.run pins s2 σ H2 (fun o H3 => o = none ∧ H3 = H2) I2 ⟨rfl, rfl⟩) fun vu s3 ⟨u, H3, I3, pu, eu, e3⟩ => ?_
  subst eu e3
  refine thn (hst.run pins s3 σ H3 (fun o H4 => o = some (-1) ∧ H4 = H3) I3 ⟨1, rfl, -1, rfl, rfl, rfl⟩) fun vs s4 ⟨o, H4, I4, ps, eo, e4⟩ => ?_
  subst eo e4
  have I5 : L2.Inv X pins σ H4 { s4 with heap := s4.heap.push { cls := .type "slice", data := .fields #[vl, vu, vs] } } := I4.kept (t' := s4.toks) fun b ob q => Heap.get?_push_of_some _ q
  obtain ⟨its, r, ht, hz⟩ := I5.tuple hx
  have hlen : its.toArray.size = xs.length := by rw [List.size_toArray]; exact r.length.symm
  show wpAny (model X.prog X.w) X.A (subscriptTail e (.Slice none none (some (.UnaryOp .USub (.Constant (.int 1) k p1) p2)) p3) (.ref a) (.ref s4.heap.objs.size)) (EP X pins σ Q) X.xe { s4 with heap := s4.heap.push { cls := .type "slice", data := .fields #[vl, vu, vs] } }
  refine tail_any (ops := [.ref a, .ref s4.heap.objs.size]) ht.typeIs (PyProof.Rows.slot_tuple_getitem.lookup) ?_ (by with_unfolding_all rfl)
  refine getItem_tuple_rev ht (Heap.IsSliceOf.new _ vl vu vs) pl pu ps ?_ (by rw [hlen]; exact hz)
  refine ⟨.ref _, _, I5.laid (t' := s4.toks) (o := .tup xs.reverse) (fun b ob q => Heap.get?_push_of_some _ q) (Nat.le_refl _) ?_, rfl, q _ (I5.hok.fresh (Nat.le_refl _))⟩
  exact ⟨by rw [List.length_reverse]; exact hz, _, r.reverse, IsTup.new _ _⟩
/-! ### an int on the left -/
theorem int_declines {prog : Program} {w : World} {A : Around} {E : Value → Shared → Prop} {s : Shared} {i : Int} {t : Tok} {x C dx : Addr} (hx : s.heap.get? x = some (PySem.W.instObj C dx)) :
    wpAny (model prog w) A (tryCompare (.int i t) "__eq__" (.ref x)) (fun r s' => r = none ∧ s' = s) E s := by
  have hT : s.TypeIs (.int i t) "int" := rfl
  refine wpAny_tryCompare_declines hT PySem.F.slot_int_eq_refl (wpAny_call (codeAny_call_builtin PySem.F.slot_int_eq_refl.plain PySem.F.entry_int_eq (PySem.F.slot_int_eq_refl.check _ _ _ _ _ _ _ _ hT (PySem.F.args_int_eq_2 _ _) ?_)))
  show wpAny _ _ (Builtin.Int.intBinary "__eq__" (fun x y => ret (.bool (x == y))) false ⟨[.int i t, .ref x], []⟩) _ _ _
  unfold Builtin.Int.intBinary
  refine wpAny_bind (m := slotArgs "__eq__" 1 _) (wpAny_pure ?_)
  refine wpAny_bind (m := Builtin.Int.intOfSelf (.int i t)) ?_
  unfold Builtin.Int.intOfSelf
  refine wpAny_bind (m := asInt? (.int i t)) (wpAny_pure (wpAny_pure ?_))
  refine wpAny_bind (m := asInt? (.ref x)) ?_
  unfold asInt?
  refine wpAny_bind (m := load x) (wpAny_load hx (wpAny_pure ?_))
  refine wpAny_bind (wpAny_rule (wpAny_pure ?_))
  first
    | exact ⟨trivial, rfl, rfl⟩
    | exact ⟨trivial, trivial, rfl⟩
    | exact ⟨trivial, rfl⟩
    | simp
section
variable {X : Cx} {CX : CXT} {C f : Addr} {fd : FuncData} {ps : List Str} {n : Nat} {sp : Sp} {E : XK}
def rIntL (C : Addr) (sp : Sp) (E : XK) : R2 := fun x y H Q => ∃ i a dx fs, x = .int i ∧ y = .ref a ∧ H a = some (.ins C dx fs) ∧ sp [y, x] H (fun v H' => ∃ b : Bool, v = .bl b ∧ Q (.bl b) H') E
theorem op_eqIntL (F : FnOk X.prog X.w X.K X.mg X.base CX n f fd ps sp) (hsub : PySem.W.subIn X.K (.ref C) (.type "int") = some false)
    (hs : PySem.W.findIn X.K (.ref C) "__eq__" = some (some (.ref f))) (hf : PySem.W.isFn X.K (.ref f) = true) (hb : L2.Binds X.K fd ps []) (hx : Passes CX X E) (hr : Room n X.A) :
    OpR X (compareOp .Eq) (rIntL C sp E) := by
  intro pins s σ H x y u v Q I rx ry ⟨i, a, dx, fs, ex, ey, ha, hsp⟩
  subst ex
  subst ey
  obtain ⟨t, rfl⟩ := (show ∃ t, u = Value.int i t from rx)
  cases (show v = Value.ref a from ry)
  obtain ⟨mA, J0, _⟩ := ins_get I.hok ha
  obtain ⟨od, J, _⟩ := J0.look
  show wpAny (model X.prog X.w) X.A (richCompare .Eq (.int i t) (.ref a)) (EP X pins σ Q) X.xe s
  refine rc_left hr.units0 I.kIn J (show s.TypeIs (.int i t) "int" from rfl) hsub rfl (int_declines J0.obj) hs hf ?_
  refine wpAny_mono (own_call F hb hx hr rfl I (x := .ref a) (y := .int i) rfl ⟨t, rfl⟩ hsp) (fun w s' h => ?_) fun _ _ h => h
  obtain ⟨z, H', rz, I', b, ez, q⟩ := h
  subst ez
  cases (show w = Value.bool b from rz)
  exact ⟨b, rfl, .bl b, H', I', rfl, q⟩
end
end Own
set_option Elab.async false
set_option linter.all false
set_option maxRecDepth 100000
set_option maxHeartbeats 2000000
/-! a dict written with other dicts in it -/
namespace Own
open PySem PySem.Spec PyProof.Rows L2
section
variable {prog : Program} {w : World} {K : Type} [DecidableEq K] {knd : KeyKind prog w K} {A : Around} {E : Value → Shared → Prop} {s : Shared}
theorem put_pairs {d : Addr} {kvs : List (K × Value)} {k : K} {key v : Value} {Q : Unit → Shared → Prop} (hkey : knd.is k key = true) (hm : s.heap.DictOf knd d kvs)
    (hQ : ∀ h', h'.DictOf knd d (stored kvs k v) → Heap.SameBut d s.heap h' → Q () { s with heap := h' }) (hsz : kvs.length ≤ sizeLine) :
    wpAny (model prog w) A (dictPut d (knd.hash k) key v) Q E s := by
  obtain ⟨o, es, ep, ho, hc, hd, hk, hp, hn⟩ := hm
  have hes : es.size ≤ sizeLine := by
    have e1 := hp.length
    rw [Array.length_toList] at e1
    omega
  unfold dictPut
  refine wpAny_bind (wpAny_dictFind_of hkey ho hd hk ?_)
  have hidx : (es.findIdx? fun e => knd.is k e.key) = kvs.findIdx? fun kv => decide (kv.1 = k) := by
    rw [← hp.findIdx k]; obtain ⟨l⟩ := es; simp
  cases hi : es.findIdx? fun e => knd.is k e.key with
  | some i =>
    refine wpAny_updateDict ho hd (hQ _ ⟨_, _, ep, Heap.get?_update_self _ ho (Obj.isFreed_of_dict (Obj.data_mapDict hd _)), hc.mapDict _, Obj.data_mapDict hd _, hk.modify _ _, ?_, ?_⟩ (Heap.SameBut.update ..))
    · rw [stored, if_pos (any_of_findIdx_some (hidx ▸ hi))]
      have hl : (es.toList.findIdx? fun e => knd.is k e.key) = some i := by rw [← hi]; obtain ⟨l⟩ := es; simp
      have := hp.modify hn hl v
      obtain ⟨l⟩ := es
      simpa using this
    · rw [stored, if_pos (any_of_findIdx_some (hidx ▸ hi)), keys_map_store]; exact hn
  | none =>
    have hnot : k ∉ kvs.map (·.1) := not_mem_of_findIdx_none (hidx ▸ hi)
    have hany : ¬ (kvs.any fun kv => decide (kv.1 = k)) = true := by
      rw [List.any_eq_true]; rintro ⟨kv, hkv, he⟩
      exact hnot (List.mem_map.mpr ⟨kv, hkv, of_decide_eq_true he⟩)
    refine wpAny_updateDictKeys (hz := hes) ho hd (hQ _ ⟨_, _, ep + 1, Heap.get?_update_self _ ho (Obj.isFreed_of_dict (Obj.data_mapDictKeys hd _)), hc.mapDictKeys _, Obj.data_mapDictKeys hd _, hk.push hkey _, ?_, ?_⟩ (Heap.SameBut.update ..))
    · rw [stored, if_neg hany]
      have := hp.append hkey (knd.hash k) v
      obtain ⟨l⟩ := es
      simpa using this
    · rw [stored, if_neg hany, List.map_append, List.nodup_append]
      refine ⟨hn, by simp, ?_⟩
      intro a ha b hb
      simp only [List.map_cons, List.map_nil, List.mem_singleton] at hb
      subst hb
      exact fun e => hnot (e ▸ ha)
theorem merge_pairs {d o : Addr} {kvs more : List (K × Value)} {Q : Unit → Shared → Prop} (nr : ∀ k v, knd.is k v = true → ∀ a, v ≠ .ref a) (hdo : d ≠ o) (hoS : (o == sysModules) = false) (hd : s.heap.DictOf knd d kvs) (ho : s.heap.DictOf knd o more)
    (hQ : ∀ h', h'.DictOf knd d (merged kvs more) → h'.DictOf knd o more → Heap.SameBut d s.heap h' → Q () { s with heap := h' }) (hsz : kvs.length + more.length ≤ sizeLine) :
    wpAny (model prog w) A (mergeMapping d (.ref o) false) Q E s := by
  obtain ⟨od, esd, epd, hod, hcd, hdd, hkd, hpd, hnd⟩ := id hd
  obtain ⟨oo, eso, epo, hoo, hco, hdo', hko, hpo, hno⟩ := id ho
  have hlen : more.length = eso.size := by rw [← hpo.length]; simp
  have loop : wpAny (model prog w) A (do
      let l ← dictEntries o
      have size : Nat := l.size
      let epoch ← dictEpoch o
      forIn (List.range size) PUnit.unit fun i (_ : PUnit) => (do
        let l' ← dictEntries o
        match l'[i]? with
          | some e => do
            holding [e.key, e.val] (dictPut d e.hash e.key e.val)
            let ep' ← dictEpoch o
            if (ep' != epoch) = true then do
                (unsupported "dict.changed-during-merge" : Sem PUnit)
                pure (ForInStep.yield PUnit.unit)
              else pure (ForInStep.yield PUnit.unit)
          | _ => do
            (unsupported "dict.changed-during-merge" : Sem PUnit)
            pure (ForInStep.yield PUnit.unit) : Sem (ForInStep PUnit))
      pure ()) Q E s := by
    refine wpAny_bind (wpAny_dictEntries hoo hdo' ?_)
    refine wpAny_bind (wpAny_dictEpoch hoo hdo' ?_)
    refine wpAny_bind ?_
    rw [show List.range eso.size = List.range' 0 eso.size from List.range_eq_range']
    refine wpAny_forIn_list _
      (fun rest _ s' => ∃ h' i, s' = { s with heap := h' } ∧ rest = List.range' i (eso.size - i) ∧ i ≤ eso.size ∧ h'.DictOf knd d (merged kvs (more.take i)) ∧ h'.get? o = some oo ∧ Heap.SameBut d s.heap h')
      _ ?_ ?_ _ _ ⟨s.heap, 0, rfl, by simp, Nat.zero_le _, by simpa [merged] using hd, hoo, Heap.SameBut.refl _ _⟩
    · rintro x rest b s' ⟨h', i, rfl, hr, hi, hd', hoo', hs'⟩
      have hlt : i < eso.size := by
        rcases Nat.lt_or_ge i eso.size with h | h
        · exact h
        · rw [Nat.sub_eq_zero_of_le h] at hr; simp at hr
      obtain ⟨rfl, hrest⟩ : x = i ∧ rest = List.range' (i + 1) (eso.size - (i + 1)) := by
        have e : eso.size - i = (eso.size - (i + 1)) + 1 := by omega
        rw [e, List.range'_succ] at hr
        injection hr with h1 h2
        exact ⟨h1, h2⟩
      refine wpAny_bind (wpAny_dictEntries hoo' hdo' ?_)
      rw [Array.getElem?_eq_getElem hlt]
      obtain ⟨kv, hkv⟩ : ∃ kv, more[x]? = some kv := ⟨more[x]'(by rw [hlen]; exact hlt), List.getElem?_eq_getElem _⟩
      obtain ⟨k, v⟩ := kv
      obtain ⟨hkey, hval⟩ := hpo.get? (e := eso[x]) (by simp [hlt]) hkv
      obtain ⟨k', hkey', hhash⟩ := hko eso[x] (Array.getElem_mem hlt)
      obtain rfl : k' = k := knd.inj _ _ _ hkey' hkey
      show wpAny _ _ (holding [eso[x].key, eso[x].val] (dictPut d eso[x].hash eso[x].key eso[x].val) >>= _) _ _ _
      rw [hhash, hval]
      have hmx : (merged kvs (more.take x)).length ≤ sizeLine := by
        have e1 := merged_length_le kvs (more.take x)
        have e2 : (more.take x).length ≤ more.length := by rw [List.length_take]; omega
        omega
      refine wpAny_bind (wpAny_holding (put_pairs hkey hd' (fun h'' hd'' hs'' => ?_) hmx))
      have hoo'' : h''.get? o = some oo := (hs''.2 o (Ne.symm hdo)).trans hoo'
      refine wpAny_bind (wpAny_dictEpoch hoo'' hdo' ?_)
      rw [if_neg (by simp)]
      exact wpAny_pure ⟨h'', x + 1, rfl, hrest, hlt, by rw [merged_take_succ kvs more x (k', v) hkv]; exact hd'', hoo'', hs'.trans hs''⟩
    · rintro b s' ⟨h', i, rfl, hr, hi, hd', hoo', hs'⟩
      have hin : i = eso.size := by
        rcases Nat.lt_or_ge i eso.size with h | h
        · have e : eso.size - i = (eso.size - (i + 1)) + 1 := by omega
          rw [e, List.range'_succ] at hr; exact nomatch hr
        · exact Nat.le_antisymm hi h
      refine wpAny_pure (hQ h' ?_ ⟨oo, eso, epo, hoo', hco, hdo', hko, hpo, hno⟩ hs')
      rw [hin, ← hlen, List.take_length] at hd'; exact hd'
  unfold mergeMapping
  refine wpAny_bind (m := isInstance (.ref o) (.type "dict")) (wpAny_isInstance ho.typeIs isSubtype_dict_dict ?_)
  simp only [if_true]
  refine wpAny_bind (wpAny_specialOf ho.typeIs F.slot_dict_iter.lookup ?_)
  simp only [beq_self_eq_true]
  show wpAny _ _ (if (o == sysModules) = true then _ else _) _ _ _
  rw [if_neg (by rw [hoS]; exact Bool.false_ne_true)]
  refine wpAny_bind (wpAny_dictEntries hod hdd ?_)
  split
  · refine wpAny_bind (wpAny_dictEntries hoo hdo' ?_)
    refine wpAny_bind (m := forIn eso PUnit.unit _) (wpAny_of_eq (a := PUnit.unit) ?_ loop)
    rw [← Array.forIn_toList]
    refine forIn_yield_id _ fun e he c => ?_
    obtain ⟨k, hkey, _⟩ := hko e (Array.mem_toList_iff.mp he)
    cases hv : e.key with
    | ref a => exact absurd hv (nr k _ hkey a)
    | _ => rfl
  · exact loop
end
theorem key_nref {P : Program} {w : World} (k : Key) (v : Value) (h : (mixKind P w).is k v = true) (a : Addr) : v ≠ .ref a := fun e => by
  rcases keyIs_shape h with ⟨i, t, _, q⟩ | ⟨x, t, _, q⟩ <;> (rw [q] at e; cases e)
section
variable {X : Cx} {pins : List (Addr × Obj)} {σ : L2.St} {H : Hp} {s : Shared} {A : Around} {E : Value → Shared → Prop}
theorem d_merge {p a : Addr} {kp ka : List (Key × V)} {Q : Unit → Shared → Prop} (I : L2.Inv X pins σ H s) (hp : H p = some (.dK kp)) (ha : Rd H a (.dK ka)) (ne : p ≠ a) (hsz : kp.length + ka.length ≤ sizeLine)
    (q : ∀ s', L2.Inv X pins σ (upd H p (.dK (mergeK kp ka))) s' → Q () s') : wpAny (model X.prog X.w) A (mergeMapping p (.ref a) false) Q E s := by
  obtain ⟨z, hd, vs0, r0, dp⟩ := dk_of I.hok hp
  obtain ⟨_, lo, vs, rel, da⟩ := dk_rd I.hok ha
  refine merge_pairs (knd := mixKind X.prog X.w) key_nref ne lo dp da (fun h' d1 _ hs => ?_) (by rw [← r0.length, ← rel.length]; exact hsz)
  have he : ∃ q, h'.get? p = some q := let ⟨q, _, _, hq, _⟩ := d1; ⟨q, hq⟩
  exact q _ (d_write (t' := s.toks) I (by rw [hp]; exact True.intro) hs he (dk_new (Nat.le_trans (length_mergeK ka kp) hsz) hd (rel.merge r0) d1))
end
/-- {**a, **b} -/
def tMerge2 (ta tb : TE) : TE := fun σ H Q => ∀ p, H p = none → ta σ (upd H p (.dK [])) fun x H1 => ∃ a ka, x = .ref a ∧ H1 p = some (.dK []) ∧ Rd H1 a (.dK ka) ∧ p ≠ a ∧ ka.length ≤ 1000 ∧
  tb σ (upd H1 p (.dK (mergeK [] ka))) fun y H2 => ∃ b kb, y = .ref b ∧ H2 p = some (.dK (mergeK [] ka)) ∧ Rd H2 b (.dK kb) ∧ p ≠ b ∧ kb.length ≤ 1000 ∧ Q (.ref p) (upd H2 p (.dK (mergeK (mergeK [] ka) kb)))
theorem pe_merge2 {X : Cx} {ea eb : Expr} {ta tb : TE} {pos : Pos} (ha : PE X ea ta) (hb : PE X eb tb) : PE X (.Dict [none, none] [ea, eb] pos) (tMerge2 ta tb) := by
  refine ⟨fun pins s σ H Q I q => ?_⟩
  have hn := I.hok.fresh (Nat.le_refl s.heap.objs.size)
  have I1 := I.laid (a := s.heap.objs.size) (o := .dK []) (h' := s.heap.push { cls := .type "dict", data := .dict #[] }) (t' := s.toks) (fun _ _ q => Heap.get?_push_of_some _ q) (Nat.le_refl _) (dk_empty s.heap I.big)
  rw [arm_eval_Dict]
  refine wpAny_bind (wpAny_standAt ?_)
  show wpAny (model X.prog X.w) X.A (dictDisplay [(none, do let x ← eval ea X.env; standAt pos; pure x), (none, do let x ← eval eb X.env; standAt pos; pure x)]) _ _ _
  unfold dictDisplay
  simp only [List.forIn_cons, List.forIn_nil, List.isEmpty_nil, if_true, pure_bind, bind_assoc, List.isEmpty]
  refine wpAny_bind (wpAny_alloc ?_)
  refine wpAny_bind (wpAny_holding (wpAny_bind (thn (ha.run pins _ σ _ _ I1 (q _ hn)) fun u s1 ⟨x, H1, I2, r1, a, ka, ex, h1, h2, h3, h4, q1⟩ => wpAny_bind (wpAny_standAt (wpAny_pure ?_)))))
  subst ex
  cases (show u = Value.ref a from r1)
  have z1 : (1000 : Nat) ≤ sizeLine := by rw [sizeLine_eq]; decide
  refine wpAny_bind (wpAny_onRaise (wpAny_tryCatch (wpAny_onRaise (wpAny_holding (d_merge I2 h1 h2 h3 (by rw [List.length_nil, Nat.zero_add]; exact Nat.le_trans h4 z1) fun s2 I3 => ?_)))))
  refine wpAny_bind (wpAny_holding (wpAny_bind (thn (hb.run pins _ σ _ _ I3 q1) fun u s3 ⟨y, H2, I4, r2, b, kb, ey, g1, g2, g3, g4, q2⟩ => wpAny_bind (wpAny_standAt (wpAny_pure ?_)))))
  subst ey
  cases (show u = Value.ref b from r2)
  have l1 := length_mergeK ka []
  rw [List.length_nil] at l1
  refine wpAny_bind (wpAny_onRaise (wpAny_tryCatch (wpAny_onRaise (wpAny_holding (d_merge I4 g1 g2 g3 (by rw [sizeLine_eq]; omega) fun s4 I5 => ?_)))))
  exact wpAny_pure ⟨.ref _, _, I5, rfl, q2⟩
/-- {**a, k: v} -/
def tMerge1 (ta tk tv : TE) : TE := fun σ H Q => ∀ p, H p = none → ta σ (upd H p (.dK [])) fun x H1 => ∃ a ka, x = .ref a ∧ H1 p = some (.dK []) ∧ Rd H1 a (.dK ka) ∧ p ≠ a ∧ ka.length ≤ 1000 ∧
  ∀ q, upd H1 p (.dK (mergeK [] ka)) q = none → tk σ (upd (upd H1 p (.dK (mergeK [] ka))) q (.dK [])) fun k H3 => tv σ H3 fun v H4 => H4 q = some (.dK []) ∧ H4 p = some (.dK (mergeK [] ka)) ∧ p ≠ q ∧ ∃ key, k = kV key ∧ Q (.ref p) (upd (upd H4 q (.dK [(key, v)])) p (.dK (putK (mergeK [] ka) key v)))
theorem pe_merge1 {X : Cx} {ea ek ev : Expr} {ta tk tv : TE} {pos : Pos} (ha : PE X ea ta) (hk : PE X ek tk) (hv : PE X ev tv) : PE X (.Dict [none, some ek] [ea, ev] pos) (tMerge1 ta tk tv) := by
  refine ⟨fun pins s σ H Q I q => ?_⟩
  have hn := I.hok.fresh (Nat.le_refl s.heap.objs.size)
  have I1 := I.laid (a := s.heap.objs.size) (o := .dK []) (h' := s.heap.push { cls := .type "dict", data := .dict #[] }) (t' := s.toks) (fun _ _ q => Heap.get?_push_of_some _ q) (Nat.le_refl _) (dk_empty s.heap I.big)
  rw [arm_eval_Dict]
  refine wpAny_bind (wpAny_standAt ?_)
  show wpAny (model X.prog X.w) X.A (dictDisplay [(none, do let x ← eval ea X.env; standAt pos; pure x), (some (eval ek X.env), do let x ← eval ev X.env; standAt pos; pure x)]) _ _ _
  unfold dictDisplay
  simp only [List.forIn_cons, List.forIn_nil, List.isEmpty_nil, if_true, pure_bind, bind_assoc, List.isEmpty, List.nil_append, List.length_cons, List.length_nil]
  refine wpAny_bind (wpAny_alloc ?_)
  refine wpAny_bind (wpAny_holding (wpAny_bind (thn (ha.run pins _ σ _ _ I1 (q _ hn)) fun u s1 ⟨x, H1, I2, r1, a, ka, ex, h1, h2, h3, h4, q1⟩ => wpAny_bind (wpAny_standAt (wpAny_pure ?_)))))
  subst ex
  cases (show u = Value.ref a from r1)
  have z1 : (1000 : Nat) ≤ sizeLine := by rw [sizeLine_eq]; decide
  refine wpAny_bind (wpAny_onRaise (wpAny_tryCatch (wpAny_onRaise (wpAny_holding (d_merge I2 h1 h2 h3 (by rw [List.length_nil, Nat.zero_add]; exact Nat.le_trans h4 z1) fun s2 I3 => ?_)))))
  rw [if_neg (show ¬ ((0 + 1 == 17) = true) by decide)]
  simp only [pure_bind, bind_assoc, Bool.false_eq_true, if_false]
  show wpAny _ _ (holding [Value.ref s.heap.objs.size] (subDict [(eval ek X.env, do let x ← eval ev X.env; standAt pos; pure x)]) >>= _) _ _ _
  have hn2 := I3.hok.fresh (Nat.le_refl s2.heap.objs.size)
  have I3' := I3.laid (a := s2.heap.objs.size) (o := .dK []) (h' := s2.heap.push { cls := .type "dict", data := .dict #[] }) (t' := s2.toks) (fun _ _ q => Heap.get?_push_of_some _ q) (Nat.le_refl _) (dk_empty s2.heap I3.big)
  refine wpAny_bind (wpAny_holding (wpAny_subDict (knd := mixKind X.prog X.w) (by show 1 ≤ 15; decide) ?_))
  refine evalPairs_cons (thn (hk.run pins _ σ _ _ I3' (q1 _ hn2)) fun uk s4 ⟨yk, H3, I4, rk, q2⟩ => ?_)
  refine wpAny_bind (thn (hv.run pins _ σ _ _ I4 q2) fun uv s5 ⟨yv, H4, I5, rv, g1, g2, g3, key, ey, q3⟩ => wpAny_bind (wpAny_standAt (wpAny_pure ?_)))
  refine evalPairs_nil ?_
  subst ey
  obtain ⟨z, hd, vs0, r0, dd⟩ := dk_of I5.hok g1
  cases r0
  refine ⟨[(key, uv)], ⟨kV_is rk, rfl, trivial⟩, dd, fun h' d1 hs => ?_⟩
  have he : ∃ q, h'.get? s2.heap.objs.size = some q := let ⟨q, _, _, hq, _⟩ := d1; ⟨q, hq⟩
  have I6 : L2.Inv X pins σ (upd H4 s2.heap.objs.size (.dK [(key, yv)])) { s5 with heap := h', toks := s5.toks + 1 } := d_write I5 (by rw [g1]; exact True.intro) hs he (dk_new (by show 1 ≤ sizeLine; rw [sizeLine_eq]; decide) hd (.cons ⟨rfl, rv⟩ .nil) d1)
  have l1 := length_mergeK ka []
  rw [List.length_nil] at l1
  have m1 : upd H4 s2.heap.objs.size (.dK [(key, yv)]) s.heap.objs.size = some (.dK (mergeK [] ka)) := by rw [upd_ne g3]; exact g2
  refine wpAny_bind (wpAny_onRaise (wpAny_holding (d_merge I6 m1 (.inl upd_same) g3 (by rw [sizeLine_eq]; show _ + 1 ≤ _; omega) fun s7 I7 => ?_)))
  exact wpAny_pure ⟨.ref _, _, I7, rfl, q3⟩
end Own
set_option Elab.async false
set_option linter.all false
set_option maxRecDepth 100000
set_option maxHeartbeats 2000000
/-! an exception out of a loop over a locked dict -/
namespace Own
open PySem PySem.Spec PyProof.Rows L2
theorem takes_unlock {X : Cx} {W : WX} (tk : Takes X W) : Takes X (fun c d σ H => ∃ p od u, H p = some (.frz od u) ∧ (∀ o' u', X.H_0 p ≠ some (.frz o' u')) ∧ W c d σ (upd H p u)) := fun u s' ⟨a, B, sI, pins, σ, H, cls, d, e, I, nb, up, sky, na, os, ag, p, od, u0, h1, h2, w⟩ =>
  tk u s' ⟨a, B, sI, pins, σ, upd H p u0, cls, d, e, I.unlock h1 h2, nb, up, sky, by rw [upd_ne (fun z => by rw [z, h1] at na; cases na)]; exact na, os, ag, w⟩
end Own
set_option Elab.async false
set_option linter.all false
set_option maxRecDepth 100000
set_option maxHeartbeats 4000000
namespace K5
open PySem L2
def top (i : Nat) : Stmt := PySem.Challenge.pw_cookcalls_k04_meals_changed.main.body.getD i (.Pass ⟨0, 0, 0, 0⟩)
abbrev s_is_integer : Stmt := top 4
abbrev N_is_integer : List Str := ["thing"]
abbrev P_is_integer : List Str := ["thing"]
theorem sc_is_integer : FnScope N_is_integer P_is_integer (defScope s_is_integer) := ⟨rfl, rfl, rfl, by decide +kernel, rfl, by decide +kernel, by decide +kernel⟩
abbrev s_is_list : Stmt := top 5
abbrev N_is_list : List Str := ["thing"]
abbrev P_is_list : List Str := ["thing"]
theorem sc_is_list : FnScope N_is_list P_is_list (defScope s_is_list) := ⟨rfl, rfl, rfl, by decide +kernel, rfl, by decide +kernel, by decide +kernel⟩
abbrev s_is_name : Stmt := top 6
abbrev N_is_name : List Str := ["thing", "sign"]
abbrev P_is_name : List Str := ["thing"]
theorem sc_is_name : FnScope N_is_name P_is_name (defScope s_is_name) := ⟨rfl, rfl, rfl, by decide +kernel, rfl, by decide +kernel, by decide +kernel⟩
abbrev s_is_dish : Stmt := top 7
abbrev N_is_dish : List Str := ["thing", "dishes"]
abbrev P_is_dish : List Str := ["thing", "dishes"]
theorem sc_is_dish : FnScope N_is_dish P_is_dish (defScope s_is_dish) := ⟨rfl, rfl, rfl, by decide +kernel, rfl, by decide +kernel, by decide +kernel⟩
abbrev s_is_index : Stmt := top 8
abbrev N_is_index : List Str := ["thing", "rows"]
abbrev P_is_index : List Str := ["thing", "rows"]
theorem sc_is_index : FnScope N_is_index P_is_index (defScope s_is_index) := ⟨rfl, rfl, rfl, by decide +kernel, rfl, by decide +kernel, by decide +kernel⟩
abbrev s_copied : Stmt := top 9
abbrev N_copied : List Str := ["thing", "part", "key"]
abbrev P_copied : List Str := ["thing"]
theorem sc_copied : FnScope N_copied P_copied (defScope s_copied) := ⟨rfl, rfl, rfl, by decide +kernel, rfl, by decide +kernel, by decide +kernel⟩
abbrev s_is_bounds : Stmt := top 20
abbrev N_is_bounds : List Str := ["thing", "least", "most"]
abbrev P_is_bounds : List Str := ["thing"]
theorem sc_is_bounds : FnScope N_is_bounds P_is_bounds (defScope s_is_bounds) := ⟨rfl, rfl, rfl, by decide +kernel, rfl, by decide +kernel, by decide +kernel⟩
abbrev s_is_moment : Stmt := top 21
abbrev N_is_moment : List Str := ["thing", "dishes"]
abbrev P_is_moment : List Str := ["thing", "dishes"]
theorem sc_is_moment : FnScope N_is_moment P_is_moment (defScope s_is_moment) := ⟨rfl, rfl, rfl, by decide +kernel, rfl, by decide +kernel, by decide +kernel⟩
abbrev s_is_wish : Stmt := top 22
abbrev N_is_wish : List Str := ["thing", "dishes", "one", "other", "most"]
abbrev P_is_wish : List Str := ["thing", "dishes"]
theorem sc_is_wish : FnScope N_is_wish P_is_wish (defScope s_is_wish) := ⟨rfl, rfl, rfl, by decide +kernel, rfl, by decide +kernel, by decide +kernel⟩
abbrev s_is_station : Stmt := top 23
abbrev N_is_station : List Str := ["thing", "dishes", "name"]
abbrev P_is_station : List Str := ["thing", "dishes"]
theorem sc_is_station : FnScope N_is_station P_is_station (defScope s_is_station) := ⟨rfl, rfl, rfl, by decide +kernel, rfl, by decide +kernel, by decide +kernel⟩
abbrev s_as_moment : Stmt := top 24
abbrev N_as_moment : List Str := ["moment"]
abbrev P_as_moment : List Str := ["moment"]
theorem sc_as_moment : FnScope N_as_moment P_as_moment (defScope s_as_moment) := ⟨rfl, rfl, rfl, by decide +kernel, rfl, by decide +kernel, by decide +kernel⟩
abbrev s_as_wish : Stmt := top 25
abbrev N_as_wish : List Str := ["wish", "one", "other", "most"]
abbrev P_as_wish : List Str := ["wish"]
theorem sc_as_wish : FnScope N_as_wish P_as_wish (defScope s_as_wish) := ⟨rfl, rfl, rfl, by decide +kernel, rfl, by decide +kernel, by decide +kernel⟩
abbrev s_check_dish : Stmt := top 27
abbrev N_check_dish : List Str := ["name", "dishes"]
abbrev P_check_dish : List Str := ["name", "dishes"]
theorem sc_check_dish : FnScope N_check_dish P_check_dish (defScope s_check_dish) := ⟨rfl, rfl, rfl, by decide +kernel, rfl, by decide +kernel, by decide +kernel⟩
abbrev s_NoWish___init__ : Stmt := inClass (top 15) 0
abbrev N_NoWish___init__ : List Str := ["self", "index"]
abbrev P_NoWish___init__ : List Str := ["self", "index"]
theorem sc_NoWish___init__ : FnScope N_NoWish___init__ P_NoWish___init__ (defScope s_NoWish___init__) := ⟨rfl, rfl, rfl, by decide +kernel, rfl, by decide +kernel, by decide +kernel⟩
abbrev s_Clash___init__ : Stmt := inClass (top 17) 0
abbrev N_Clash___init__ : List Str := ["self", "name"]
abbrev P_Clash___init__ : List Str := ["self", "name"]
theorem sc_Clash___init__ : FnScope N_Clash___init__ P_Clash___init__ (defScope s_Clash___init__) := ⟨rfl, rfl, rfl, by decide +kernel, rfl, by decide +kernel, by decide +kernel⟩
abbrev s_Meal___init__ : Stmt := inClass (top 29) 0
abbrev N_Meal___init__ : List Str := ["self", "dishes", "wishes", "stations", "name", "wish", "station"]
abbrev P_Meal___init__ : List Str := ["self", "dishes", "wishes", "stations"]
theorem sc_Meal___init__ : FnScope N_Meal___init__ P_Meal___init__ (defScope s_Meal___init__) := ⟨rfl, rfl, rfl, by decide +kernel, rfl, by decide +kernel, by decide +kernel⟩
abbrev s_Meal_dishes : Stmt := inClass (top 29) 1
abbrev N_Meal_dishes : List Str := ["self"]
abbrev P_Meal_dishes : List Str := ["self"]
theorem sc_Meal_dishes : FnScope N_Meal_dishes P_Meal_dishes (defScope s_Meal_dishes) := ⟨rfl, rfl, rfl, by decide +kernel, rfl, by decide +kernel, by decide +kernel⟩
abbrev s_Meal_wishes : Stmt := inClass (top 29) 2
abbrev N_Meal_wishes : List Str := ["self"]
abbrev P_Meal_wishes : List Str := ["self"]
theorem sc_Meal_wishes : FnScope N_Meal_wishes P_Meal_wishes (defScope s_Meal_wishes) := ⟨rfl, rfl, rfl, by decide +kernel, rfl, by decide +kernel, by decide +kernel⟩
abbrev s_Meal_stations : Stmt := inClass (top 29) 3
abbrev N_Meal_stations : List Str := ["self"]
abbrev P_Meal_stations : List Str := ["self"]
theorem sc_Meal_stations : FnScope N_Meal_stations P_Meal_stations (defScope s_Meal_stations) := ⟨rfl, rfl, rfl, by decide +kernel, rfl, by decide +kernel, by decide +kernel⟩
abbrev s_Meal_more : Stmt := inClass (top 29) 4
abbrev N_Meal_more : List Str := ["self", "wishes"]
abbrev P_Meal_more : List Str := ["self", "wishes"]
theorem sc_Meal_more : FnScope N_Meal_more P_Meal_more (defScope s_Meal_more) := ⟨rfl, rfl, rfl, by decide +kernel, rfl, by decide +kernel, by decide +kernel⟩
abbrev s_Meal_less : Stmt := inClass (top 29) 5
abbrev N_Meal_less : List Str := ["self", "index"]
abbrev P_Meal_less : List Str := ["self", "index"]
theorem sc_Meal_less : FnScope N_Meal_less P_Meal_less (defScope s_Meal_less) := ⟨rfl, rfl, rfl, by decide +kernel, rfl, by decide +kernel, by decide +kernel⟩
abbrev s_Meal_taking : Stmt := inClass (top 29) 6
abbrev N_Meal_taking : List Str := ["self", "name", "least", "most"]
abbrev P_Meal_taking : List Str := ["self", "name", "least", "most"]
theorem sc_Meal_taking : FnScope N_Meal_taking P_Meal_taking (defScope s_Meal_taking) := ⟨rfl, rfl, rfl, by decide +kernel, rfl, by decide +kernel, by decide +kernel⟩
abbrev s_Meal___add__ : Stmt := inClass (top 29) 10
abbrev N_Meal___add__ : List Str := ["self", "other", "name", "dishes"]
abbrev P_Meal___add__ : List Str := ["self", "other"]
theorem sc_Meal___add__ : FnScope N_Meal___add__ P_Meal___add__ (defScope s_Meal___add__) := ⟨rfl, rfl, rfl, by decide +kernel, rfl, by decide +kernel, by decide +kernel⟩
abbrev s_Meal___eq__ : Stmt := inClass (top 29) 11
abbrev N_Meal___eq__ : List Str := ["self", "other"]
abbrev P_Meal___eq__ : List Str := ["self", "other"]
theorem sc_Meal___eq__ : FnScope N_Meal___eq__ P_Meal___eq__ (defScope s_Meal___eq__) := ⟨rfl, rfl, rfl, by decide +kernel, rfl, by decide +kernel, by decide +kernel⟩
abbrev s_check_dishes : Stmt := top 30
abbrev N_check_dishes : List Str := ["dishes", "name"]
abbrev P_check_dishes : List Str := ["dishes"]
theorem sc_check_dishes : FnScope N_check_dishes P_check_dishes (defScope s_check_dishes) := ⟨rfl, rfl, rfl, by decide +kernel, rfl, by decide +kernel, by decide +kernel⟩
abbrev s_check_wishes : Stmt := top 31
abbrev N_check_wishes : List Str := ["wishes", "dishes", "index", "thing"]
abbrev P_check_wishes : List Str := ["wishes", "dishes"]
theorem sc_check_wishes : FnScope N_check_wishes P_check_wishes (defScope s_check_wishes) := ⟨rfl, rfl, rfl, by decide +kernel, rfl, by decide +kernel, by decide +kernel⟩
abbrev s_check_stations : Stmt := top 32
abbrev N_check_stations : List Str := ["stations", "dishes", "index", "thing"]
abbrev P_check_stations : List Str := ["stations", "dishes"]
theorem sc_check_stations : FnScope N_check_stations P_check_stations (defScope s_check_stations) := ⟨rfl, rfl, rfl, by decide +kernel, rfl, by decide +kernel, by decide +kernel⟩
abbrev s__law_fresh : Stmt := top 34
abbrev N__law_fresh : List Str := ["_law_script"]
abbrev P__law_fresh : List Str := ["_law_script"]
theorem sc__law_fresh : FnScope N__law_fresh P__law_fresh (defScope s__law_fresh) := ⟨rfl, rfl, rfl, by decide +kernel, rfl, by decide +kernel, by decide +kernel⟩
abbrev s__law_take : Stmt := top 35
abbrev N__law_take : List Str := ["_law_state", "_law_many", "_law_cell", "_law_digit", "_law_mixed"]
abbrev P__law_take : List Str := ["_law_state", "_law_many"]
theorem sc__law_take : FnScope N__law_take P__law_take (defScope s__law_take) := ⟨rfl, rfl, rfl, by decide +kernel, rfl, by decide +kernel, by decide +kernel⟩
abbrev s__law_one : Stmt := top 36
abbrev N__law_one : List Str := ["_law_state", "_law_things"]
abbrev P__law_one : List Str := ["_law_state", "_law_things"]
theorem sc__law_one : FnScope N__law_one P__law_one (defScope s__law_one) := ⟨rfl, rfl, rfl, by decide +kernel, rfl, by decide +kernel, by decide +kernel⟩
abbrev s__law_mix : Stmt := top 37
abbrev N__law_mix : List Str := ["_law_state", "_law_things", "_law_left", "_law_found"]
abbrev P__law_mix : List Str := ["_law_state", "_law_things"]
theorem sc__law_mix : FnScope N__law_mix P__law_mix (defScope s__law_mix) := ⟨rfl, rfl, rfl, by decide +kernel, rfl, by decide +kernel, by decide +kernel⟩
abbrev s__law_some : Stmt := top 38
abbrev N__law_some : List Str := ["_law_state", "_law_things", "_law_thing"]
abbrev P__law_some : List Str := ["_law_state", "_law_things"]
theorem sc__law_some : FnScope N__law_some P__law_some (defScope s__law_some) := ⟨rfl, rfl, rfl, by decide +kernel, rfl, by decide +kernel, by decide +kernel⟩
abbrev s__law_same : Stmt := top 39
abbrev N__law_same : List Str := ["_law_found", "_law_due", "_law_x", "_law_y"]
abbrev P__law_same : List Str := ["_law_found", "_law_due"]
theorem sc__law_same : FnScope N__law_same P__law_same (defScope s__law_same) := ⟨rfl, rfl, rfl, by decide +kernel, rfl, by decide +kernel, by decide +kernel⟩
abbrev s__law_same_dict : Stmt := top 40
abbrev N__law_same_dict : List Str := ["_law_found", "_law_due", "_law_key"]
abbrev P__law_same_dict : List Str := ["_law_found", "_law_due"]
theorem sc__law_same_dict : FnScope N__law_same_dict P__law_same_dict (defScope s__law_same_dict) := ⟨rfl, rfl, rfl, by decide +kernel, rfl, by decide +kernel, by decide +kernel⟩
abbrev s__law_loose : Stmt := top 41
abbrev N__law_loose : List Str := ["_law_state", "_law_thing", "_law_found", "_law_x"]
abbrev P__law_loose : List Str := ["_law_state", "_law_thing"]
theorem sc__law_loose : FnScope N__law_loose P__law_loose (defScope s__law_loose) := ⟨rfl, rfl, rfl, by decide +kernel, rfl, by decide +kernel, by decide +kernel⟩
abbrev s__law_names : Stmt := top 42
abbrev N__law_names : List Str := ["_law_state", "_law_many", "_law_some_here"]
abbrev P__law_names : List Str := ["_law_state", "_law_many"]
theorem sc__law_names : FnScope N__law_names P__law_names (defScope s__law_names) := ⟨rfl, rfl, rfl, by decide +kernel, rfl, by decide +kernel, by decide +kernel⟩
abbrev s__law_rising : Stmt := top 43
abbrev N__law_rising : List Str := ["_law_things", "_law_found", "_law_thing", "_law_x"]
abbrev P__law_rising : List Str := ["_law_things"]
theorem sc__law_rising : FnScope N__law_rising P__law_rising (defScope s__law_rising) := ⟨rfl, rfl, rfl, by decide +kernel, rfl, by decide +kernel, by decide +kernel⟩
abbrev s__law_dishes : Stmt := top 44
abbrev N__law_dishes : List Str := ["_law_state", "_law_names_here", "_law_wide", "_law_found", "_law_name", "_law_least"]
abbrev P__law_dishes : List Str := ["_law_state", "_law_names_here", "_law_wide"]
theorem sc__law_dishes : FnScope N__law_dishes P__law_dishes (defScope s__law_dishes) := ⟨rfl, rfl, rfl, by decide +kernel, rfl, by decide +kernel, by decide +kernel⟩
abbrev s__law_moment : Stmt := top 45
abbrev N__law_moment : List Str := ["_law_state", "_law_names_here"]
abbrev P__law_moment : List Str := ["_law_state", "_law_names_here"]
theorem sc__law_moment : FnScope N__law_moment P__law_moment (defScope s__law_moment) := ⟨rfl, rfl, rfl, by decide +kernel, rfl, by decide +kernel, by decide +kernel⟩
abbrev s__law_wishes : Stmt := top 46
abbrev N__law_wishes : List Str := ["_law_state", "_law_names_here", "_law_many", "_law_found", "_law_k", "_law_sort", "_law_most", "_law_one_here", "_law_other"]
abbrev P__law_wishes : List Str := ["_law_state", "_law_names_here", "_law_many"]
theorem sc__law_wishes : FnScope N__law_wishes P__law_wishes (defScope s__law_wishes) := ⟨rfl, rfl, rfl, by decide +kernel, rfl, by decide +kernel, by decide +kernel⟩
abbrev s__law_with : Stmt := top 47
abbrev N__law_with : List Str := ["_law_things", "_law_name", "_law_thing", "_law_found"]
abbrev P__law_with : List Str := ["_law_things", "_law_name", "_law_thing"]
theorem sc__law_with : FnScope N__law_with P__law_with (defScope s__law_with) := ⟨rfl, rfl, rfl, by decide +kernel, rfl, by decide +kernel, by decide +kernel⟩
abbrev s__law_stations : Stmt := top 48
abbrev N__law_stations : List Str := ["_law_state", "_law_names_here", "_law_found", "_law_k"]
abbrev P__law_stations : List Str := ["_law_state", "_law_names_here"]
theorem sc__law_stations : FnScope N__law_stations P__law_stations (defScope s__law_stations) := ⟨rfl, rfl, rfl, by decide +kernel, rfl, by decide +kernel, by decide +kernel⟩
abbrev s__law_tried : Stmt := top 49
abbrev N__law_tried : List Str := ["_law_ask", "_law_found", "e"]
abbrev P__law_tried : List Str := ["_law_ask"]
theorem sc__law_tried : FnScope N__law_tried P__law_tried (defScope s__law_tried) := ⟨rfl, rfl, rfl, by decide +kernel, rfl, by decide +kernel, by decide +kernel⟩
abbrev s__law_is_meal : Stmt := top 50
abbrev N__law_is_meal : List Str := ["_law_meal", "_law_dishes_here", "_law_wishes_here", "_law_stations_here", "_law_due", "_law_name"]
abbrev P__law_is_meal : List Str := ["_law_meal", "_law_dishes_here", "_law_wishes_here", "_law_stations_here"]
theorem sc__law_is_meal : FnScope N__law_is_meal P__law_is_meal (defScope s__law_is_meal) := ⟨rfl, rfl, rfl, by decide +kernel, rfl, by decide +kernel, by decide +kernel⟩
abbrev s__law_are_joined : Stmt := top 51
abbrev N__law_are_joined : List Str := ["_law_state", "_law_meal", "_law_mine", "_law_others", "_law_shared", "_law_mixed", "_law_due", "_law_x"]
abbrev P__law_are_joined : List Str := ["_law_state", "_law_meal", "_law_mine", "_law_others"]
theorem sc__law_are_joined : FnScope N__law_are_joined P__law_are_joined (defScope s__law_are_joined) := ⟨rfl, rfl, rfl, by decide +kernel, rfl, by decide +kernel, by decide +kernel⟩
abbrev s_law : Stmt := top 52
abbrev N_law : List Str := ["_law_script", "_law_state", "_law_turn", "_law_names_here", "_law_mine", "_law_theirs", "_law_dishes_here", "_law_others", "_law_wishes_here", "_law_more", "_law_rooms", "_law_room", "_law_meal", "_law_other", "_law_k", "_law_odd", "_law_name", "_law_least", "_law_taking", "_law_both", "_law_one_here", "_law_two", "_law_row"]
abbrev P_law : List Str := ["_law_script"]
theorem sc_law : FnScope N_law P_law (defScope s_law) := ⟨rfl, rfl, rfl, by decide +kernel, rfl, by decide +kernel, by decide +kernel⟩
structure Ad where
  a_is_integer : Addr
  d_is_integer : FuncData
  a_is_list : Addr
  d_is_list : FuncData
  a_is_name : Addr
  d_is_name : FuncData
  a_is_dish : Addr
  d_is_dish : FuncData
  a_is_index : Addr
  d_is_index : FuncData
  a_copied : Addr
  d_copied : FuncData
  a_is_bounds : Addr
  d_is_bounds : FuncData
  a_is_moment : Addr
  d_is_moment : FuncData
  a_is_wish : Addr
  d_is_wish : FuncData
  a_is_station : Addr
  d_is_station : FuncData
  a_as_moment : Addr
  d_as_moment : FuncData
  a_as_wish : Addr
  d_as_wish : FuncData
  a_check_dish : Addr
  d_check_dish : FuncData
  a_NoWish___init__ : Addr
  d_NoWish___init__ : FuncData
  a_Clash___init__ : Addr
  d_Clash___init__ : FuncData
  a_Meal___init__ : Addr
  d_Meal___init__ : FuncData
  a_Meal_dishes : Addr
  d_Meal_dishes : FuncData
  a_Meal_wishes : Addr
  d_Meal_wishes : FuncData
  a_Meal_stations : Addr
  d_Meal_stations : FuncData
  a_Meal_more : Addr
  d_Meal_more : FuncData
  a_Meal_less : Addr
  d_Meal_less : FuncData
  a_Meal_taking : Addr
  d_Meal_taking : FuncData
  a_Meal___add__ : Addr
  d_Meal___add__ : FuncData
  a_Meal___eq__ : Addr
  d_Meal___eq__ : FuncData
  a_check_dishes : Addr
  d_check_dishes : FuncData
  a_check_wishes : Addr
  d_check_wishes : FuncData
  a_check_stations : Addr
  d_check_stations : FuncData
  a__law_fresh : Addr
  d__law_fresh : FuncData
  a__law_take : Addr
  d__law_take : FuncData
  a__law_one : Addr
  d__law_one : FuncData
  a__law_mix : Addr
  d__law_mix : FuncData
  a__law_some : Addr
  d__law_some : FuncData
  a__law_same : Addr
  d__law_same : FuncData
  a__law_same_dict : Addr
  d__law_same_dict : FuncData
  a__law_loose : Addr
  d__law_loose : FuncData
  a__law_names : Addr
  d__law_names : FuncData
  a__law_rising : Addr
  d__law_rising : FuncData
  a__law_dishes : Addr
  d__law_dishes : FuncData
  a__law_moment : Addr
  d__law_moment : FuncData
  a__law_wishes : Addr
  d__law_wishes : FuncData
  a__law_with : Addr
  d__law_with : FuncData
  a__law_stations : Addr
  d__law_stations : FuncData
  a__law_tried : Addr
  d__law_tried : FuncData
  a__law_is_meal : Addr
  d__law_is_meal : FuncData
  a__law_are_joined : Addr
  d__law_are_joined : FuncData
  a_law : Addr
  d_law : FuncData
  a_Meal : Addr
  a_NoWish : Addr
  a_Clash : Addr
  a_EDGES : Addr
  a_W0 : Addr
  a_S0 : Addr
structure Txt (K : PySem.W.Frag) (mg : Str → Option Value) (A : Ad) : Prop where
  f_is_integer : Fun K "is_integer" "is_integer" s_is_integer A.a_is_integer A.d_is_integer
  g_is_integer : mg "is_integer" = some (.ref A.a_is_integer)
  b_is_integer : Binds K A.d_is_integer P_is_integer []
  f_is_list : Fun K "is_list" "is_list" s_is_list A.a_is_list A.d_is_list
  g_is_list : mg "is_list" = some (.ref A.a_is_list)
  b_is_list : Binds K A.d_is_list P_is_list []
  f_is_name : Fun K "is_name" "is_name" s_is_name A.a_is_name A.d_is_name
  g_is_name : mg "is_name" = some (.ref A.a_is_name)
  b_is_name : Binds K A.d_is_name P_is_name []
  f_is_dish : Fun K "is_dish" "is_dish" s_is_dish A.a_is_dish A.d_is_dish
  g_is_dish : mg "is_dish" = some (.ref A.a_is_dish)
  b_is_dish : Binds K A.d_is_dish P_is_dish []
  f_is_index : Fun K "is_index" "is_index" s_is_index A.a_is_index A.d_is_index
  g_is_index : mg "is_index" = some (.ref A.a_is_index)
  b_is_index : Binds K A.d_is_index P_is_index []
  f_copied : Fun K "copied" "copied" s_copied A.a_copied A.d_copied
  g_copied : mg "copied" = some (.ref A.a_copied)
  b_copied : Binds K A.d_copied P_copied []
  f_is_bounds : Fun K "is_bounds" "is_bounds" s_is_bounds A.a_is_bounds A.d_is_bounds
  g_is_bounds : mg "is_bounds" = some (.ref A.a_is_bounds)
  b_is_bounds : Binds K A.d_is_bounds P_is_bounds []
  f_is_moment : Fun K "is_moment" "is_moment" s_is_moment A.a_is_moment A.d_is_moment
  g_is_moment : mg "is_moment" = some (.ref A.a_is_moment)
  b_is_moment : Binds K A.d_is_moment P_is_moment []
  f_is_wish : Fun K "is_wish" "is_wish" s_is_wish A.a_is_wish A.d_is_wish
  g_is_wish : mg "is_wish" = some (.ref A.a_is_wish)
  b_is_wish : Binds K A.d_is_wish P_is_wish []
  f_is_station : Fun K "is_station" "is_station" s_is_station A.a_is_station A.d_is_station
  g_is_station : mg "is_station" = some (.ref A.a_is_station)
  b_is_station : Binds K A.d_is_station P_is_station []
  f_as_moment : Fun K "as_moment" "as_moment" s_as_moment A.a_as_moment A.d_as_moment
  g_as_moment : mg "as_moment" = some (.ref A.a_as_moment)
  b_as_moment : Binds K A.d_as_moment P_as_moment []
  f_as_wish : Fun K "as_wish" "as_wish" s_as_wish A.a_as_wish A.d_as_wish
  g_as_wish : mg "as_wish" = some (.ref A.a_as_wish)
  b_as_wish : Binds K A.d_as_wish P_as_wish []
  f_check_dish : Fun K "check_dish" "check_dish" s_check_dish A.a_check_dish A.d_check_dish
  g_check_dish : mg "check_dish" = some (.ref A.a_check_dish)
  b_check_dish : Binds K A.d_check_dish P_check_dish []
  f_NoWish___init__ : Fun K "__init__" "NoWish.__init__" s_NoWish___init__ A.a_NoWish___init__ A.d_NoWish___init__
  b_NoWish___init__ : Binds K A.d_NoWish___init__ P_NoWish___init__ []
  f_Clash___init__ : Fun K "__init__" "Clash.__init__" s_Clash___init__ A.a_Clash___init__ A.d_Clash___init__
  b_Clash___init__ : Binds K A.d_Clash___init__ P_Clash___init__ []
  f_Meal___init__ : FunD K "__init__" "Meal.__init__" (defArgs s_Meal___init__) (defBody s_Meal___init__) (defScope s_Meal___init__) [.ref A.a_W0, .ref A.a_S0] [] A.a_Meal___init__ A.d_Meal___init__
  f_Meal_dishes : Fun K "dishes" "Meal.dishes" s_Meal_dishes A.a_Meal_dishes A.d_Meal_dishes
  b_Meal_dishes : Binds K A.d_Meal_dishes P_Meal_dishes []
  f_Meal_wishes : Fun K "wishes" "Meal.wishes" s_Meal_wishes A.a_Meal_wishes A.d_Meal_wishes
  b_Meal_wishes : Binds K A.d_Meal_wishes P_Meal_wishes []
  f_Meal_stations : Fun K "stations" "Meal.stations" s_Meal_stations A.a_Meal_stations A.d_Meal_stations
  b_Meal_stations : Binds K A.d_Meal_stations P_Meal_stations []
  f_Meal_more : Fun K "more" "Meal.more" s_Meal_more A.a_Meal_more A.d_Meal_more
  b_Meal_more : Binds K A.d_Meal_more P_Meal_more []
  f_Meal_less : Fun K "less" "Meal.less" s_Meal_less A.a_Meal_less A.d_Meal_less
  b_Meal_less : Binds K A.d_Meal_less P_Meal_less []
  f_Meal_taking : Fun K "taking" "Meal.taking" s_Meal_taking A.a_Meal_taking A.d_Meal_taking
  b_Meal_taking : Binds K A.d_Meal_taking P_Meal_taking []
  f_Meal___add__ : Fun K "__add__" "Meal.__add__" s_Meal___add__ A.a_Meal___add__ A.d_Meal___add__
  b_Meal___add__ : Binds K A.d_Meal___add__ P_Meal___add__ []
  f_Meal___eq__ : Fun K "__eq__" "Meal.__eq__" s_Meal___eq__ A.a_Meal___eq__ A.d_Meal___eq__
  b_Meal___eq__ : Binds K A.d_Meal___eq__ P_Meal___eq__ []
  f_check_dishes : Fun K "check_dishes" "check_dishes" s_check_dishes A.a_check_dishes A.d_check_dishes
  g_check_dishes : mg "check_dishes" = some (.ref A.a_check_dishes)
  b_check_dishes : Binds K A.d_check_dishes P_check_dishes []
  f_check_wishes : Fun K "check_wishes" "check_wishes" s_check_wishes A.a_check_wishes A.d_check_wishes
  g_check_wishes : mg "check_wishes" = some (.ref A.a_check_wishes)
  b_check_wishes : Binds K A.d_check_wishes P_check_wishes []
  f_check_stations : Fun K "check_stations" "check_stations" s_check_stations A.a_check_stations A.d_check_stations
  g_check_stations : mg "check_stations" = some (.ref A.a_check_stations)
  b_check_stations : Binds K A.d_check_stations P_check_stations []
  f__law_fresh : Fun K "_law_fresh" "_law_fresh" s__law_fresh A.a__law_fresh A.d__law_fresh
  g__law_fresh : mg "_law_fresh" = some (.ref A.a__law_fresh)
  b__law_fresh : Binds K A.d__law_fresh P__law_fresh []
  f__law_take : Fun K "_law_take" "_law_take" s__law_take A.a__law_take A.d__law_take
  g__law_take : mg "_law_take" = some (.ref A.a__law_take)
  b__law_take : Binds K A.d__law_take P__law_take []
  f__law_one : Fun K "_law_one" "_law_one" s__law_one A.a__law_one A.d__law_one
  g__law_one : mg "_law_one" = some (.ref A.a__law_one)
  b__law_one : Binds K A.d__law_one P__law_one []
  f__law_mix : Fun K "_law_mix" "_law_mix" s__law_mix A.a__law_mix A.d__law_mix
  g__law_mix : mg "_law_mix" = some (.ref A.a__law_mix)
  b__law_mix : Binds K A.d__law_mix P__law_mix []
  f__law_some : Fun K "_law_some" "_law_some" s__law_some A.a__law_some A.d__law_some
  g__law_some : mg "_law_some" = some (.ref A.a__law_some)
  b__law_some : Binds K A.d__law_some P__law_some []
  f__law_same : Fun K "_law_same" "_law_same" s__law_same A.a__law_same A.d__law_same
  g__law_same : mg "_law_same" = some (.ref A.a__law_same)
  b__law_same : Binds K A.d__law_same P__law_same []
  f__law_same_dict : Fun K "_law_same_dict" "_law_same_dict" s__law_same_dict A.a__law_same_dict A.d__law_same_dict
  g__law_same_dict : mg "_law_same_dict" = some (.ref A.a__law_same_dict)
  b__law_same_dict : Binds K A.d__law_same_dict P__law_same_dict []
  f__law_loose : Fun K "_law_loose" "_law_loose" s__law_loose A.a__law_loose A.d__law_loose
  g__law_loose : mg "_law_loose" = some (.ref A.a__law_loose)
  b__law_loose : Binds K A.d__law_loose P__law_loose []
  f__law_names : Fun K "_law_names" "_law_names" s__law_names A.a__law_names A.d__law_names
  g__law_names : mg "_law_names" = some (.ref A.a__law_names)
  b__law_names : Binds K A.d__law_names P__law_names []
  f__law_rising : Fun K "_law_rising" "_law_rising" s__law_rising A.a__law_rising A.d__law_rising
  g__law_rising : mg "_law_rising" = some (.ref A.a__law_rising)
  b__law_rising : Binds K A.d__law_rising P__law_rising []
  f__law_dishes : Fun K "_law_dishes" "_law_dishes" s__law_dishes A.a__law_dishes A.d__law_dishes
  g__law_dishes : mg "_law_dishes" = some (.ref A.a__law_dishes)
  b__law_dishes : Binds K A.d__law_dishes P__law_dishes []
  f__law_moment : Fun K "_law_moment" "_law_moment" s__law_moment A.a__law_moment A.d__law_moment
  g__law_moment : mg "_law_moment" = some (.ref A.a__law_moment)
  b__law_moment : Binds K A.d__law_moment P__law_moment []
  f__law_wishes : Fun K "_law_wishes" "_law_wishes" s__law_wishes A.a__law_wishes A.d__law_wishes
  g__law_wishes : mg "_law_wishes" = some (.ref A.a__law_wishes)
  b__law_wishes : Binds K A.d__law_wishes P__law_wishes []
  f__law_with : Fun K "_law_with" "_law_with" s__law_with A.a__law_with A.d__law_with
  g__law_with : mg "_law_with" = some (.ref A.a__law_with)
  b__law_with : Binds K A.d__law_with P__law_with []
  f__law_stations : Fun K "_law_stations" "_law_stations" s__law_stations A.a__law_stations A.d__law_stations
  g__law_stations : mg "_law_stations" = some (.ref A.a__law_stations)
  b__law_stations : Binds K A.d__law_stations P__law_stations []
  f__law_tried : Fun K "_law_tried" "_law_tried" s__law_tried A.a__law_tried A.d__law_tried
  g__law_tried : mg "_law_tried" = some (.ref A.a__law_tried)
  b__law_tried : Binds K A.d__law_tried P__law_tried []
  f__law_is_meal : Fun K "_law_is_meal" "_law_is_meal" s__law_is_meal A.a__law_is_meal A.d__law_is_meal
  g__law_is_meal : mg "_law_is_meal" = some (.ref A.a__law_is_meal)
  b__law_is_meal : Binds K A.d__law_is_meal P__law_is_meal []
  f__law_are_joined : Fun K "_law_are_joined" "_law_are_joined" s__law_are_joined A.a__law_are_joined A.d__law_are_joined
  g__law_are_joined : mg "_law_are_joined" = some (.ref A.a__law_are_joined)
  b__law_are_joined : Binds K A.d__law_are_joined P__law_are_joined []
  f_law : Fun K "law" "law" s_law A.a_law A.d_law
  g_law : mg "law" = some (.ref A.a_law)
  b_law : Binds K A.d_law P_law []
  g_CLOCK : ∃ t, mg "CLOCK" = some (.str "clock" t)
  g_LETTERS : ∃ t, mg "LETTERS" = some (.str "abcdefghijklmnopqrstuvwxyz" t)
  g_LONGEST_NAME : ∃ t, mg "LONGEST_NAME" = some (.int 8 t)
  len : mg "len" = none
  abs : mg "abs" = none
  int : mg "int" = none
  list : mg "list" = none
  tuple : mg "tuple" = none
  bool : mg "bool" = none
  str : mg "str" = none
  dict : mg "dict" = none
  isinstance : mg "isinstance" = none
  all : mg "all" = none
  any : mg "any" = none
  zip : mg "zip" = none
  enumerate : mg "enumerate" = none
  range : mg "range" = none
  sorted : mg "sorted" = none
  set : mg "set" = none
  g_EDGES : mg "EDGES" = some (.ref A.a_EDGES)
  t_EDGES : SqT K (fun _ => none) A.a_EDGES [.str "start", .str "done"]
  cl_M : Cls K A.a_Meal
  nB : NoAttr K A.a_Meal "bounds"
  nW : NoAttr K A.a_Meal "wished"
  nP : NoAttr K A.a_Meal "places"
  g_Meal : mg "Meal" = some (.ref A.a_Meal)
  mkM : Mk K A.a_Meal A.a_Meal___init__
  m_dishes : Meth K A.a_Meal "dishes" A.a_Meal_dishes
  m_wishes : Meth K A.a_Meal "wishes" A.a_Meal_wishes
  m_stations : Meth K A.a_Meal "stations" A.a_Meal_stations
  b_Meal___init__ : Binds K A.d_Meal___init__ P_Meal___init__ []
  aC : PySem.W.findIn K (.ref A.a_Meal) "__class__" = some (some (.builtin "object.__class__"))
  aG : PySem.W.specialIn K (.builtin "object.__class__") "__get__" = some (some (.builtin "getset_descriptor.__get__"))
  aT : PySem.W.takesIn K (.builtin "object.__class__") = some true
  nfM : PySem.W.notFirst K A.a_Meal (.ref A.a_Meal) = true
  kMM : PySem.W.kitOne K (.ref A.a_Meal) (.ref A.a_Meal) = some true
  kMN : PySem.W.kitOne K (.type "NoneType") (.ref A.a_Meal) = some false
  kMI : PySem.W.kitOne K (.type "int") (.ref A.a_Meal) = some false
  kMD : PySem.W.kitOne K (.type "dict") (.ref A.a_Meal) = some false
  m_eq : Meth K A.a_Meal "__eq__" A.a_Meal___eq__
  nE : PySem.W.findIn K (.ref A.a_Meal) "__ne__" = some (some (.builtin "object.__ne__"))
  mO : PySem.W.mroIn K A.a_Meal (.type "object") = some true
  m_more : Meth K A.a_Meal "more" A.a_Meal_more
  m_less : Meth K A.a_Meal "less" A.a_Meal_less
  m_taking : Meth K A.a_Meal "taking" A.a_Meal_taking
  xWi : OexC K A.a_NoWish
  nWi : PySem.W.findIn K (.ref A.a_NoWish) "index" = some none
  iWi : PySem.W.findIn K (.ref A.a_NoWish) "__init__" = some (some (.ref A.a_NoWish___init__))
  tWi : PySem.W.typeIn K (.ref A.a_NoWish___init__) = some (.type "function")
  g_NoWish : mg "NoWish" = some (.ref A.a_NoWish)
  xfWi : XfC K A.a_NoWish
  xCl : OexC K A.a_Clash
  nCl : PySem.W.findIn K (.ref A.a_Clash) "name" = some none
  iCl : PySem.W.findIn K (.ref A.a_Clash) "__init__" = some (some (.ref A.a_Clash___init__))
  tCl : PySem.W.typeIn K (.ref A.a_Clash___init__) = some (.type "function")
  g_Clash : mg "Clash" = some (.ref A.a_Clash)
  xfCl : XfC K A.a_Clash
  eWW : PySem.W.exmOne K (.ref A.a_NoWish) (.ref A.a_NoWish) = some true
  eCW : PySem.W.exmOne K (.ref A.a_Clash) (.ref A.a_NoWish) = some false
  eCC : PySem.W.exmOne K (.ref A.a_Clash) (.ref A.a_Clash) = some true
  oAdd : PySem.W.findIn K (.ref A.a_Meal) (PySem.dunder (Operator.info .Add).2) = some (some (.ref A.a_Meal___add__)) ∧ PySem.W.isFn K (.ref A.a_Meal___add__) = true
  sfM : PySem.W.selfFirst K A.a_Meal = true
  qML : PySem.W.kitOne K (.ref A.a_Meal) (.type "list") = some false
  qMT : PySem.W.kitOne K (.ref A.a_Meal) (.type "tuple") = some false
  qMI : PySem.W.kitOne K (.ref A.a_Meal) (.type "int") = some false
  e0W : SqT K (fun _ => none) A.a_W0 []
  e0 : SqT K (fun _ => none) A.a_S0 []
  b2_M : ∃ ds, Vals [.ref A.a_W0, .ref A.a_S0] ds ∧ Binds K A.d_Meal___init__ P_Meal___init__ ds

/-! ### the state of draws -/
def er (H : Hp) (st : Addr) : Hp := fun b => if b = st then none else H b
theorem er_ne {H : Hp} {st b : Addr} (h : b ≠ st) : er H st b = H b := if_neg h
theorem er_some {H : Hp} {st b : Addr} {o : HO} (h : er H st b = some o) : b ≠ st ∧ H b = some o := by
  by_cases e : b = st
  · rw [e] at h
    rw [show er H st st = none from if_pos rfl] at h
    cases h
  · exact ⟨e, (er_ne e).symm.trans h⟩
theorem er_same (H : Hp) (st : Addr) : Same (er H st) H := fun _ _ h => (er_some h).2
theorem er_upd (H : Hp) (st : Addr) (o : HO) : er (upd H st o) st = er H st := by
  funext b
  by_cases e : b = st
  · rw [e]; exact (if_pos rfl).trans (if_pos rfl).symm
  · rw [er_ne e, er_ne e, upd_ne e]
theorem er_of {H : Hp} {st b : Addr} {o : HO} (h : b ≠ st) (e : H b = some o) : er H st b = some o := (er_ne h).trans e
theorem er_mono {H H' : Hp} {st : Addr} (s : Same H H') : Same (er H st) (er H' st) := fun b o h =>
  er_of (er_some h).1 (s _ _ (er_some h).2)
def five (c : Addr) (i l m n : Int) : HO := .lst [.ref c, .int i, .int l, .int m, .int n]
structure Sta (H : Hp) (st c : Addr) (b : Int) : Prop where
  ex : ∃ (cs : List Int) (i : Nat) (l m n : Int), H st = some (five c (i : Int) l m n) ∧ er H st c = some (.lst (cs.map V.int)) ∧ i ≤ cs.length ∧ 0 ≤ l ∧ 0 ≤ m ∧ m < 2147483647 ∧ 0 ≤ n ∧ n ≤ b ∧ b ≤ 1000000
theorem Sta.same {H H' : Hp} {st c : Addr} {b : Int} (h : Sta H st c b) (s : Same H H') : Sta H' st c b := by
  obtain ⟨cs, i, l, m, n, h1, h2, h3⟩ := h.ex
  exact ⟨cs, i, l, m, n, s _ _ h1, er_mono s _ _ h2, h3⟩
theorem Sta.le {H : Hp} {st c : Addr} {b b' : Int} (h : Sta H st c b) (hb : b ≤ b') (h9 : b' ≤ 1000000) : Sta H st c b' := by
  obtain ⟨cs, i, l, m, n, h1, h2, h3, h4, h5, h6, h7, h8, _⟩ := h.ex
  exact ⟨cs, i, l, m, n, h1, h2, h3, h4, h5, h6, h7, by omega, h9⟩
theorem Sta.ne {H : Hp} {st c p : Addr} {b : Int} (h : Sta H st c b) (hp : H p = none) : p ≠ st := by
  obtain ⟨cs, i, l, m, n, h1, _⟩ := h.ex
  exact fun e => by rw [e, h1] at hp; cases hp
theorem Sta.nec {H : Hp} {st c p : Addr} {b : Int} (h : Sta H st c b) (hp : er H st p = none) : c ≠ p := by
  obtain ⟨cs, i, l, m, n, _, h1, _⟩ := h.ex
  exact ne_of_none h1 hp
theorem Same.new {H : Hp} {p : Addr} {o : HO} (hp : H p = none) : Same H (upd H p o) := fun b u e => by
  rw [upd_ne (ne_of_none e hp)]; exact e
theorem sqUp {K : PySem.W.Frag} {H H' : Hp} {a : Addr} {xs : List V} (h : SqL K H a xs) (s : Same H H') : SqL K H' a xs := s.seq h
theorem sqEr {K : PySem.W.Frag} {H : Hp} {st a : Addr} {xs : List V} (h : SqL K (er H st) a xs) : SqL K H a xs := (er_same H st).seq h
theorem er_updp {H : Hp} {st p : Addr} {o : HO} (hp : p ≠ st) : er (upd H p o) st = upd (er H st) p o := by
  funext b
  by_cases e : b = st
  · rw [e, upd_ne (fun z => hp z.symm)]; exact (if_pos rfl).trans (if_pos rfl).symm
  · by_cases e2 : b = p
    · rw [e2, upd_same, er_ne hp, upd_same]
    · rw [upd_ne e2, er_ne e, er_ne e, upd_ne e2]
theorem er_none {H : Hp} {st p : Addr} (h : H p = none) : er H st p = none := by
  by_cases e : p = st
  · exact if_pos e
  · exact (er_ne e).trans h
/-- what a helper that draws leaves: the state, and all that stood beside it -/
structure Gs (st c : Addr) (H H' : Hp) (b : Int) : Prop where
  sta : Sta H' st c b
  same : Same (er H st) (er H' st)
theorem Gs.trans {st c : Addr} {H H1 H2 : Hp} {b b' : Int} (g : Gs st c H H1 b) (g' : Gs st c H1 H2 b') : Gs st c H H2 b' := ⟨g'.sta, g.same.trans g'.same⟩
theorem Gs.refl {st c : Addr} {H : Hp} {b : Int} (h : Sta H st c b) : Gs st c H H b := ⟨h, Same.refl _⟩
theorem Gs.of_upd {st c : Addr} {H : Hp} {o : HO} {b : Int} (h : Sta (upd H st o) st c b) : Gs st c H (upd H st o) b := ⟨h, by rw [er_upd]; exact Same.refl _⟩
theorem Gs.of_same {st c : Addr} {H H' : Hp} {b : Int} (h : Sta H st c b) (s : Same H H') : Gs st c H H' b := ⟨h.same s, er_mono s⟩
theorem Gs.le {st c : Addr} {H H' : Hp} {b b' : Int} (g : Gs st c H H' b) (hb : b ≤ b') (h9 : b' ≤ 1000000) : Gs st c H H' b' := ⟨g.sta.le hb h9, g.same⟩
/-- a thing of the helper's own changes -/
theorem Gs.set {st c p : Addr} {H H' : Hp} {b : Int} {o : HO} (g : Gs st c H H' b) (hc : er H st c ≠ none) (hp : er H st p = none) (hs : p ≠ st) : Gs st c H (upd H' p o) b := by
  refine ⟨?_, fun b u e => ?_⟩
  · obtain ⟨cs, i, l, m, n, h1, h2, h3⟩ := g.sta.ex
    refine ⟨cs, i, l, m, n, by rw [upd_ne (fun z => hs z.symm)]; exact h1, ?_, h3⟩
    rw [er_updp hs, upd_ne (fun z => hc (by rw [z]; exact hp))]
    exact h2
  · rw [er_updp hs, upd_ne (ne_of_none e hp)]
    exact g.same _ _ e
theorem Gs.new {st c p : Addr} {H H' : Hp} {b : Int} {o : HO} (g : Gs st c H H' b) (hp : H' p = none) : Gs st c H (upd H' p o) b :=
  g.trans (Gs.of_same g.sta (Same.new hp))
theorem Sta.hc {H : Hp} {st c : Addr} {b : Int} (h : Sta H st c b) : er H st c ≠ none := by
  obtain ⟨cs, i, l, m, n, _, h1, _⟩ := h.ex
  rw [h1]
  exact fun z => by cases z

theorem while_ex {c : TT} {tb : TS} {D : Ends} {σ : St} {H : Hp} (W : Nat → St → Hp → Prop) (Ex : St → Hp → Prop) {m : Nat} (h0 : W m σ H)
    (hs : ∀ nx : St → Hp → Prop, (∀ σ H, Ex σ H → nx σ H) → ∀ m σ H, W m σ H → c σ H fun b H1 => if b = true then ∃ N : St → Hp → Prop, (∀ σ' H', N σ' H' → ∃ m', m' < m ∧ W m' σ' H') ∧ tb { D with nx := N, ct := N, bk := nx } σ H1 else nx σ H1)
    (hd : ∀ σ H, Ex σ H → D.nx σ H) : tWhile c tb D σ H := ⟨W, ⟨m, h0⟩, hs D.nx hd⟩
theorem cast_heap {F : Hp → Prop} {a b : Hp} (e : a = b) (h : F b) : F a := e ▸ h

def spTake : Sp := fun vs H Q _ => ∃ (st c : Addr) (many b : Int), vs = [.ref st, .int many] ∧ Sta H st c b ∧ b + 1 ≤ 1000000 ∧ 0 < many ∧ many < 1073741824 ∧
  ∀ (r : Int) (o : HO), 0 ≤ r → r < many → Sta (upd H st o) st c (b + 1) → Q (.int r) (upd H st o)

local macro_rules | `(tactic| walk_at "rd1") => `(tactic| first
  | refine ⟨_, _, rfl, rfl, ?_⟩
  | refine ⟨_, _, _, _, rfl, rfl, SqL.of (by assumption), rfl, ?_⟩
  | refine ⟨_, _, _, _, rfl, rfl, (by assumption), rfl, ?_⟩
  | refine .inl ⟨_, rfl, ?_⟩
  | refine ⟨_, rfl, ?_⟩
  | refine ⟨(by unfold CMul; omega), ?_⟩
  | refine ⟨(by unfold CPow; omega), ?_⟩
  | refine ⟨(by (try dsimp only); omega), ?_⟩
  | refine ⟨(by unfold CDiv; omega), ?_⟩
  | fail "rd1")
local macro_rules | `(tactic| walk_at "rd") => `(tactic| repeat' (walk_at "rd1"))
def spFresh (K : PySem.W.Frag) : Sp := fun vs H Q _ => ∃ (a : Addr) (ns : List Int), vs = [.ref a] ∧ SqL K H a (ns.map V.int) ∧
  ∀ (st c : Addr) (H' : Hp), Same H (er H' st) → Sta H' st c 0 → Q (.ref st) H'
def spOne (K : PySem.W.Frag) : Sp := fun vs H Q _ => ∃ (st c t : Addr) (xs : List V) (b : Int), vs = [.ref st, .ref t] ∧ Sta H st c b ∧ b + 1 ≤ 1000000 ∧ SqL K (er H st) t xs ∧ 0 < xs.length ∧ xs.length < 1073741824 ∧
  ∀ (i : Nat) (v : V) (H' : Hp), xs[i]? = some v → Gs st c H H' (b + 1) → Q v H'
def spMix (K : PySem.W.Frag) : Sp := fun vs H Q _ => ∃ (st c t : Addr) (ss : List Str) (b : Int), vs = [.ref st, .ref t] ∧ Sta H st c b ∧ b + 64 ≤ 1000000 ∧ SqL K (er H st) t (ss.map V.str) ∧ ss.length ≤ 64 ∧ (∀ s ∈ ss, PyData.strOk s = true) ∧
  ∀ (p : Addr) (ys : List Str) (H' : Hp), ys.Perm ss → Gs st c H H' (b + 64) → er H' st p = some (.lst (ys.map V.str)) → er H st p = none → Q (.ref p) H'
def spSome (K : PySem.W.Frag) : Sp := fun vs H Q _ => ∃ (st c t : Addr) (ss : List Str) (b : Int), vs = [.ref st, .ref t] ∧ Sta H st c b ∧ b + 64 ≤ 1000000 ∧ SqL K (er H st) t (ss.map V.str) ∧ ss.length ≤ 64 ∧
  ∀ (p : Addr) (ys : List Str) (H' : Hp), ys.Sublist ss → Gs st c H H' (b + 64) → er H' st p = some (.lst (ys.map V.str)) → er H st p = none → Q (.ref p) H'
section
variable {P : Program} {w : World} {K : PySem.W.Frag} {mg : Str → Option Value} {base : Heap} {A : Ad}
theorem ok_take (T : Txt K mg A) : FnOk P w K mg base CX0 1 A.a__law_take A.d__law_take P__law_take spTake := by
  refine T.f__law_take.ok sc__law_take (fun vs H Q E h => ?_) (fun cdv A' outer s H vs Q E hr h => ?_)
  · obtain ⟨st, c, many, b, rfl, _⟩ := h
    rfl
  · obtain ⟨st, c, many, b, rfl, S, hb1, hm0, hm1, k⟩ := h
    obtain ⟨cs, i, l, m, n, h1, h2, h3, h4, h5, h6, h7, h8, h9⟩ := S.ex
    refine ⟨_, (pss_cons (ps_asg (pe_op op_add (pe_ix ix_list (pv 0) pe_int (fun _ _ => rfl)) pe_int) (pg_sub (pv 0) pe_int set_list))
 (pss_cons (ps_while PassesOwn.never (PW.pt (pw_and (pt_cmpR op_eq (pe_ix ix_list (pv 0) pe_int (fun _ _ => rfl)) pe_int (nomark _)) (pw_and1 (pt_cmpR op_lt (pe_ix ix_list (pv 0) pe_int (fun _ _ => rfl)) (pe_callB call_len_seq (by rfl) T.len PySem.boot_len (pa_cons (pe_ix ix_list (pv 0) pe_int (fun _ _ => rfl)) pa_nil)) (nomark _)))))
 (pss_cons (ps_set (i := 2) sc__law_take.nd rfl (Or.inl rfl) (pe_callB call_abs (by rfl) T.abs (by decide +kernel) (pa_cons (pe_ix ix_list (pe_ix ix_list (pv 0) pe_int (fun _ _ => rfl)) (pe_ix ix_list (pv 0) pe_int (fun _ _ => rfl)) (fun _ _ => rfl)) pa_nil)))
 (pss_cons (ps_asg (pe_op op_add (pe_ix ix_list (pv 0) pe_int (fun _ _ => rfl)) pe_int) (pg_sub (pv 0) pe_int set_list))
 (pss_one (ps_if (pt_cmpR op_ge (pv 2) (pe_op op_pow pe_int pe_int) (nomark _))
 (pss_one (ps_asg (pv 2) (pg_sub (pv 0) pe_int set_list)))
 (pss_one (ps_asg (pe_op op_mod (pe_callTy call_int1 (by rfl) T.int (by decide +kernel) (pa_cons (pe_op op_add (pe_op op_add (pe_op op_mul (pe_ix ix_list (pv 0) pe_int (fun _ _ => rfl)) pe_int) (pv 2)) pe_int) pa_nil)) pe_int) (pg_sub (pv 0) pe_int set_list))))))))
 (pss_cons (ps_if (pt_cmpR op_gt (pe_ix ix_list (pv 0) pe_int (fun _ _ => rfl)) pe_int (nomark _))
 (pss_cons (ps_set (i := 3) sc__law_take.nd rfl (Or.inl rfl) (pe_op op_mod (pe_callTy call_int1 (by rfl) T.int (by decide +kernel) (pa_cons (pe_ix ix_list (pv 0) pe_int (fun _ _ => rfl)) pa_nil)) (pv 1)))
 (pss_cons (ps_asg (pe_op op_fdiv (pe_ix ix_list (pv 0) pe_int (fun _ _ => rfl)) (pv 1)) (pg_sub (pv 0) pe_int set_list))
 (pss_one (ps_ret (pv 3)))))
 pss_nil)
 (pss_cons (ps_set (i := 4) sc__law_take.nd rfl (Or.inl rfl) (pe_op op_mod (pe_callTy call_int1 (by rfl) T.int (by decide +kernel) (pa_cons (pe_op op_pow (pe_op op_add (pe_op op_add (pe_ix ix_list (pv 0) pe_int (fun _ _ => rfl)) (pe_op op_mul pe_int (pe_ix ix_list (pv 0) pe_int (fun _ _ => rfl)))) pe_int) pe_int) pa_nil)) pe_int))
 (pss_cons (ps_set (i := 4) sc__law_take.nd rfl (Or.inl rfl) (pe_op op_mod (pe_callTy call_int1 (by rfl) T.int (by decide +kernel) (pa_cons (pe_op op_pow (pe_op op_add (pv 4) (pe_op op_mul pe_int (pe_ix ix_list (pv 0) pe_int (fun _ _ => rfl)))) pe_int) pa_nil)) pe_int))
 (pss_one (ps_ret (pe_op op_mod (pe_callTy call_int1 (by rfl) T.int (by decide +kernel) (pa_cons (pe_op op_fdiv (pv 4) pe_int) pa_nil)) (pv 1))))))))), ?_⟩
    -- state[4] = state[4] + 1
    refine ⟨_, rfl, _, _, _, _, rfl, rfl, SqL.of h1, rfl, _, _, rfl, rfl, _, rfl, _, _, _, _, rfl, rfl, h1, rfl, ?_⟩
    refine while_ex (fun mm σ' H' => ∃ (i : Nat) (l m : Int) (v : Option V), σ' = [some (.ref st), some (.int many), v, none, none] ∧ H' = upd H st (five c (i : Int) l m (n + 1)) ∧ i ≤ cs.length ∧ 0 ≤ l ∧ 0 ≤ m ∧ m < 2147483647 ∧ mm = cs.length - i)
      (fun σ' H' => ∃ (i : Nat) (l m : Int) (v : Option V), σ' = [some (.ref st), some (.int many), v, none, none] ∧ H' = upd H st (five c (i : Int) l m (n + 1)) ∧ i ≤ cs.length ∧ 0 ≤ l ∧ 0 ≤ m ∧ m < 2147483647)
      ⟨i, l, m, none, rfl, rfl, h3, h4, h5, h6, rfl⟩ (fun nx hnx => ?_) ?_
    rintro mm σ' H' ⟨i, l, m, v, rfl, rfl, h3, h4, h5, h6, rfl⟩
    have hu : upd H st (five c (i : Int) l m (n + 1)) st = some (five c (i : Int) l m (n + 1)) := upd_same
    have hc : SqL K (upd H st (five c (i : Int) l m (n + 1))) c (cs.map V.int) := SqL.of ((er_same _ st) _ _ (by rw [er_upd]; exact h2))
    -- the test
    refine ⟨_, rfl, _, _, _, _, rfl, rfl, SqL.of hu, rfl, rfl, _, rfl, ?_⟩
    refine ite2 (fun hl => ?_) (fun hl => ?_)
    · have el : l = 0 := by
        have q := of_decide_eq_true hl
        cases q
        rfl
      subst el
      refine ⟨_, rfl, _, _, _, _, rfl, rfl, SqL.of hu, rfl, _, rfl, _, _, _, _, rfl, rfl, SqL.of hu, rfl, _, _, rfl, .inl hc, _, _, rfl, rfl, _, rfl, ?_⟩
      refine ite2 (fun hi => ?_) (fun hi => ?_)
      · have hi' : i < cs.length := by
          have q := of_decide_eq_true hi
          rw [List.length_map] at q
          omega
        refine ⟨_, fun _ _ z => z, ?_⟩
        -- cell = abs(state[0][state[1]]); state[1] = state[1] + 1
        refine ⟨_, rfl, _, _, _, _, rfl, rfl, SqL.of hu, rfl, _, rfl, _, _, _, _, rfl, rfl, SqL.of hu, rfl, _, _, _, _, rfl, rfl, hc, atI_nat (by rw [List.getElem?_map, List.getElem?_eq_getElem hi']; rfl), _, rfl, ?_⟩
        refine ⟨_, rfl, _, _, _, _, rfl, rfl, SqL.of hu, rfl, _, _, rfl, rfl, _, rfl, _, _, _, _, rfl, rfl, hu, rfl, ?_⟩
        have e2 : upd (upd H st (five c (i : Int) 0 m (n + 1))) st (five c ((i : Int) + 1) 0 m (n + 1)) = upd H st (five c (((i + 1 : Nat)) : Int) 0 m (n + 1)) := upd_upd
        refine cast_heap e2 ?_
        have hu2 : upd H st (five c (((i + 1 : Nat)) : Int) 0 m (n + 1)) st = some (five c (((i + 1 : Nat)) : Int) 0 m (n + 1)) := upd_same
        generalize hcell : (if cs[i] < 0 then -cs[i] else cs[i]) = cell
        have hc0 : 0 ≤ cell := by
          rw [← hcell]
          split <;> omega
        -- if cell >= 10 ** 18
        refine ⟨_, rfl, _, _, rfl, rfl, ⟨by decide, by decide, by decide⟩, _, _, rfl, rfl, _, rfl, ?_⟩
        refine ite2 (fun hg => ?_) (fun hg => ?_)
        · refine ⟨_, rfl, _, rfl, _, _, _, _, rfl, rfl, hu2, rfl, ?_⟩
          exact ⟨cs.length - (i + 1), by omega, i + 1, cell, m, _, rfl, upd_upd, hi', hc0, h5, h6, rfl⟩
        · have hlt : cell < 10 ^ 18 := by
            refine Int.not_le.mp fun q => hg (decide_eq_true ?_)
            exact q
          refine ⟨_, rfl, _, _, _, _, rfl, rfl, SqL.of hu2, rfl, _, _, rfl, rfl, .inl ⟨by omega, by omega⟩, _, rfl, _, _, rfl, rfl, _, _, rfl, rfl, .inl ⟨_, rfl, _, _, rfl, rfl, (by show (0 : Int) < 2147483647; decide), _, rfl, _, _, _, _, rfl, rfl, hu2, rfl, ?_⟩⟩
          refine ⟨cs.length - (i + 1), by omega, i + 1, 0, (m * 131 + cell + 1) % 2147483647, _, rfl, upd_upd, hi', Int.le_refl _, Int.emod_nonneg _ (by decide), Int.emod_lt_of_pos _ (by decide), rfl⟩
      · exact hnx _ _ ⟨i, 0, m, v, rfl, rfl, h3, h4, h5, h6⟩
    · exact hnx _ _ ⟨i, l, m, v, rfl, rfl, h3, h4, h5, h6⟩
    -- behind the loop
    rintro σ' H' ⟨i, l, m, v, rfl, rfl, h3, h4, h5, h6⟩
    have hu : upd H st (five c (i : Int) l m (n + 1)) st = some (five c (i : Int) l m (n + 1)) := upd_same
    have mk : ∀ (i : Nat) (l m : Int), i ≤ cs.length → 0 ≤ l → 0 ≤ m → m < 2147483647 → Sta (upd H st (five c (i : Int) l m (n + 1))) st c (b + 1) := fun i l m h3 h4 h5 h6 =>
      ⟨cs, i, l, m, n + 1, upd_same, by rw [er_upd]; exact h2, h3, h4, h5, h6, by omega, by omega, hb1⟩
    refine ⟨_, rfl, _, _, _, _, rfl, rfl, SqL.of hu, rfl, _, _, rfl, rfl, _, rfl, ?_⟩
    refine ite2 (fun hl => ?_) (fun hl => ?_)
    · refine ⟨_, rfl, _, _, _, _, rfl, rfl, SqL.of hu, rfl, .inl ⟨_, rfl, _, rfl, _, _, rfl, rfl, hm0, ?_⟩⟩
      refine ⟨_, rfl, _, _, _, _, rfl, rfl, SqL.of hu, rfl, _, rfl, _, _, rfl, rfl, ⟨hm0, by omega⟩, _, rfl, _, _, _, _, rfl, rfl, hu, rfl, ?_⟩
      refine cast_heap (b := upd H st (five c (i : Int) (l / many) m (n + 1))) upd_upd ?_
      refine ⟨_, rfl, ?_⟩
      exact k _ _ (Int.emod_nonneg _ (by omega)) (Int.emod_lt_of_pos _ hm0) (mk i (l / many) m h3 (Int.ediv_nonneg h4 (by omega)) h5 h6)
    · have hp : ∀ x : Int, 0 ≤ x → x < 10000000000 → (0 : Int) ≤ 3 ∧ (3 : Int) ≤ 1000000 ∧ x.natAbs < 2 ^ 64 := fun x a b => ⟨by omega, by omega, by omega⟩
      walk_at "rd"
      exact k _ _ (Int.emod_nonneg _ (by omega)) (Int.emod_lt_of_pos _ hm0) (mk i l m h3 h4 h5 h6)
theorem ok_fresh (T : Txt K mg A) : FnOk P w K mg base CX0 1 A.a__law_fresh A.d__law_fresh P__law_fresh (spFresh K) := by
  refine T.f__law_fresh.ok sc__law_fresh (fun vs H Q E h => ?_) (fun cdv A' outer s H vs Q E hr h => ?_)
  · obtain ⟨a, ns, rfl, _⟩ := h
    rfl
  · obtain ⟨a, ns, rfl, hS, k⟩ := h
    refine ⟨_, (pss_one (ps_ret (pe_lst (pa_cons (pe_callTy call_list_of (by rfl) T.list (by decide +kernel) (pa_cons (pe_slice sl_list (pv 0) po_none (po_some pe_int)) pa_nil)) (pa_cons pe_int (pa_cons pe_int (pa_cons pe_int (pa_cons pe_int pa_nil)))))))), ?_⟩
    refine ⟨_, rfl, _, rfl, _, _, rfl, hS, fun p hp => ⟨_, _, rfl, .inl (SqL.of upd_same), fun c hc => ⟨by show 5 ≤ sizeLine; decide, fun st hst => ?_⟩⟩⟩
    have s1 : Same H (upd (upd H p (.lst (cutV (ns.map V.int) none (some 40)))) c (.lst (cutV (ns.map V.int) none (some 40)))) := (Same.new hp).trans (Same.new hc)
    have hst0 : H st = none := s1.free hst
    have ec : cutV (ns.map V.int) none (some 40) = (ns.take 40).map V.int := by
      unfold cutV
      rw [HT.sIx_none, show ((40 : Int)) = ((40 : Nat) : Int) from rfl, HT.sIx_nat]
      rw [List.drop_zero, Nat.sub_zero, List.map_take, List.length_map]
      by_cases h40 : 40 ≤ ns.length
      · rw [Nat.min_eq_left h40]
      · rw [Nat.min_eq_right (by omega), List.take_of_length_le (by simp), List.take_of_length_le (by simp; omega)]
    have hcs : c ≠ st := fun e => by rw [← e, upd_same] at hst; cases hst
    refine k st c _ (fun b o e => er_of (fun z => by rw [z, hst0] at e; cases e) (by rw [upd_ne (fun z => by rw [z, hst0] at e; cases e)]; exact s1 _ _ e)) ?_
    refine ⟨ns.take 40, 0, 0, 0, 0, upd_same, er_of hcs ?_, Nat.zero_le _, Int.le_refl _, Int.le_refl _, by decide, Int.le_refl _, Int.le_refl _, by decide⟩
    rw [upd_ne hcs, upd_same, ec]
theorem ok_one (T : Txt K mg A) : FnOk P w K mg base CX0 2 A.a__law_one A.d__law_one P__law_one (spOne K) := by
  have G__law_take : FnOk P w K mg base CX0 1 A.a__law_take A.d__law_take P__law_take spTake := ok_take T
  refine T.f__law_one.ok sc__law_one (fun vs H Q E h => ?_) (fun cdv A' outer s H vs Q E hr h => ?_)
  · obtain ⟨st, c, t, xs, b, rfl, _⟩ := h
    rfl
  · obtain ⟨st, c, t, xs, b, rfl, S, hb, hS, h0, h1, k⟩ := h
    refine ⟨_, (pss_one (ps_ret (pe_ix ix_list (pv 1) (pe_call G__law_take (hr.mono (by omega)) (by rfl) T.g__law_take T.f__law_take.kp T.b__law_take .nil pass0 (pa_cons (pv 0) (pa_cons (pe_callB call_len_seq (by rfl) T.len PySem.boot_len (pa_cons (pv 1) pa_nil)) pa_nil))) (fun _ _ => rfl)))), ?_⟩
    refine ⟨_, rfl, _, rfl, _, rfl, _, _, rfl, .inl (sqEr hS), st, c, _, b, rfl, S, hb, by omega, by omega, fun r o hr0 hr1 S' => ?_⟩
    have g := Gs.of_upd S'
    have hi : r.toNat < xs.length := by omega
    refine ⟨_, _, _, _, rfl, rfl, sqEr (sqUp hS g.same), at_of (j := r.toNat) (by omega) (List.getElem?_eq_getElem hi), ?_⟩
    exact k r.toNat _ _ (List.getElem?_eq_getElem hi) g
end
end K5
set_option Elab.async false
set_option linter.all false
set_option maxRecDepth 100000
set_option maxHeartbeats 4000000
namespace K5
open PySem L2
local macro_rules | `(tactic| walk_at "rd1") => `(tactic| first
  | refine ⟨_, _, rfl, rfl, ?_⟩
  | refine ⟨_, _, _, _, rfl, rfl, SqL.of (by assumption), rfl, ?_⟩
  | refine ⟨_, _, _, _, rfl, rfl, (by assumption), rfl, ?_⟩
  | refine .inl ⟨_, rfl, ?_⟩
  | refine ⟨_, rfl, ?_⟩
  | refine ⟨(by unfold CMul; omega), ?_⟩
  | refine ⟨(by unfold CPow; omega), ?_⟩
  | refine ⟨(by (try dsimp only); omega), ?_⟩
  | refine ⟨(by unfold CDiv; omega), ?_⟩
  | fail "rd1")
local macro_rules | `(tactic| walk_at "rd") => `(tactic| repeat' (walk_at "rd1"))
section
variable {P : Program} {w : World} {K : PySem.W.Frag} {mg : Str → Option Value} {base : Heap} {A : Ad}

theorem stUp {H H' : Hp} {a : Addr} {xs : List V} (h : SqT K H a xs) (s : Same H H') : SqT K H' a xs := by
  rcases h with (h | ⟨o, h⟩) | h
  · exact .inl (.inl (s _ _ h))
  · exact .inl (.inr ⟨o, s _ _ h⟩)
  · exact .inr h
theorem map_erase {α β : Type} (g : α → β) :
    ∀ (l : List α) (j : Nat), (l.eraseIdx j).map g = (l.map g).eraseIdx j
  | [], _ => rfl
  | _ :: _, 0 => rfl
  | a :: l, j + 1 => congrArg (g a :: ·) (map_erase g l j)
theorem erase_perm {α : Type} : ∀ {ls : List α} {i : Nat} {y : α}, ls[i]? = some y → (y :: ls.eraseIdx i).Perm ls
  | a :: l, 0, y, h => by
    have e : a = y := Option.some.inj h
    rw [e]
    exact List.Perm.refl _
  | a :: l, i + 1, y, h => (List.Perm.swap a y (l.eraseIdx i)).trans ((erase_perm (ls := l) (i := i) (y := y) h).cons a)
  | [], i, y, h => by simp at h
theorem seqIx {r : Int} {n : Nat} (h0 : 0 ≤ r) (h1 : r < (n : Int)) : seqIndex? r n = some r.toNat := by
  unfold seqIndex?
  have e : ¬ r < 0 := by omega
  simp only [e, if_false]
  have : ((0 : Int) ≤ r && r < (n : Int)) = true := by simp [h0, h1]
  simp [h0, h1]
mutual
theorem dpSame {H H' : Hp} (s : Same H H') : ∀ {v : V} {d : PyData}, Dp K H v d → Dp K H' v d
  | _, _, .non => .non
  | _, _, .bl b => .bl b
  | _, _, .int i => .int i
  | _, _, .str x => .str x
  | _, _, .lst h q => .lst (s.seq h) (dpAllSame s q)
  | _, _, .tup h q => .tup (stUp h s) (dpAllSame s q)
theorem dpAllSame {H H' : Hp} (s : Same H H') : ∀ {vs : List V} {ds : List PyData}, DpAll K H vs ds → DpAll K H' vs ds
  | _, _, .nil => .nil
  | _, _, .cons a b => .cons (dpSame s a) (dpAllSame s b)
end
theorem dpStrs {H : Hp} : ∀ ss : List Str, DpAll K H (ss.map V.str) (ss.map PyData.str)
  | [] => .nil
  | s :: ss => .cons (.str s) (dpStrs ss)
theorem strs_lay : ∀ {ss : List Str}, (∀ s ∈ ss, PyData.strOk s = true) → PyData.canLayAll0 (ss.map PyData.str) = true
  | [], _ => by simp [PyData.canLayAll0]
  | s :: ss, h => by
    simp only [List.map_cons, PyData.canLayAll0, PyData.canLay0, h s (List.mem_cons_self ..), Bool.true_and]
    exact strs_lay fun t ht => h t (List.mem_cons_of_mem _ ht)
theorem strs_depth : ∀ ss : List Str, PyData.depthAll (ss.map PyData.str) = 0
  | [] => by simp [PyData.depthAll]
  | s :: ss => by simp only [List.map_cons, PyData.depthAll, PyData.depth, strs_depth ss]; rfl
theorem strs_shaped {ss : List Str} (h : ∀ s ∈ ss, PyData.strOk s = true) : SeqAt.shaped (.list (ss.map PyData.str)) = true := by
  show (PyData.canLay0 (.list (ss.map PyData.str)) && decide (PyData.depth (.list (ss.map PyData.str)) ≤ 64)) = true
  rw [Bool.and_eq_true]
  refine ⟨by simp only [PyData.canLay0]; exact strs_lay h, decide_eq_true ?_⟩
  simp only [PyData.depth, strs_depth]
  decide
theorem eqv_strs_nil : ∀ ss : List Str, PyData.eqv (.list (ss.map PyData.str)) (.list []) = ss.isEmpty
  | [] => by simp [PyData.eqv, PyData.eqvAll]
  | s :: ss => by simp [PyData.eqv, PyData.eqvAll]
theorem perm_move {α : Type} {fs ls : List α} {i : Nat} {y : α} (h : ls[i]? = some y) : (fs ++ [y] ++ ls.eraseIdx i).Perm (fs ++ ls) := by
  rw [List.append_assoc]
  exact List.Perm.append_left fs (erase_perm h)
theorem ok_mix (T : Txt K mg A) : FnOk P w K mg base CX0 2 A.a__law_mix A.d__law_mix P__law_mix (spMix K) := by
  have G__law_take : FnOk P w K mg base CX0 1 A.a__law_take A.d__law_take P__law_take spTake := ok_take T
  refine T.f__law_mix.ok sc__law_mix (fun vs H Q E h => ?_) (fun cdv A' outer s H vs Q E hr h => ?_)
  · obtain ⟨st, c, t, ss, b, rfl, _⟩ := h
    rfl
  · obtain ⟨st, c, t, ss, b, rfl, S, hb, hS, hl, hok, k⟩ := h
    refine ⟨_, (pss_cons (ps_par (i := 2) (j := 3) (by rfl) sc__law_mix.nd rfl rfl (by decide) rfl rfl (pa_cons (pe_callTy call_list_of (by rfl) T.list (by decide +kernel) (pa_cons (pv 1) pa_nil)) (pa_cons (pe_lst pa_nil) pa_nil)) (by rfl))
 (pss_cons (ps_while PassesOwn.never (pt_cmpR (op_neD hr.units) (pv 2) (pe_lst pa_nil) (nomark _))
 (pss_one (ps_expr (pe_bm PySem.F.plainAttrs_list PySem.F.slot_list_append PySem.F.type_list_append mt_append (pv 3) (pa_cons (pe_bm PySem.F.plainAttrs_list PySem.F.slot_list_pop PySem.F.type_list_pop mt_popAt (pv 2) (pa_cons (pe_call G__law_take (hr.mono (by omega)) (by rfl) T.g__law_take T.f__law_take.kp T.b__law_take .nil pass0 (pa_cons (pv 0) (pa_cons (pe_callB call_len_seq (by rfl) T.len PySem.boot_len (pa_cons (pv 2) pa_nil)) pa_nil))) pa_nil)) pa_nil)))))
 (pss_one (ps_ret (pv 3))))), ?_⟩
    refine ⟨_, rfl, _, _, rfl, .inl (sqEr hS), fun left nl => ⟨Nat.zero_le _, fun fnd nf => ⟨_, _, rfl, ?_⟩⟩⟩
    have nls : left ≠ st := S.ne nl
    have nf0 : H fnd = none := (Same.new nl).free nf
    have nfs : fnd ≠ st := S.ne nf0
    have nlf : left ≠ fnd := ne_of_none upd_same nf
    have el : er H st left = none := er_none nl
    have ef : er H st fnd = none := er_none nf0
    have g0 : Gs st c H (upd (upd H left (.lst (ss.map V.str))) fnd (.lst [])) b := (Gs.refl S).set S.hc el nls |>.set S.hc ef nfs
    refine while_ex (fun mm σ' H' => ∃ (ls fs : List Str), σ' = [some (.ref st), some (.ref t), some (.ref left), some (.ref fnd)] ∧ H' left = some (.lst (ls.map V.str)) ∧ H' fnd = some (.lst (fs.map V.str)) ∧ (fs ++ ls).Perm ss ∧ Gs st c H H' (b + (fs.length : Int)) ∧ mm = ls.length)
      (fun σ' H' => ∃ (fs : List Str), σ' = [some (.ref st), some (.ref t), some (.ref left), some (.ref fnd)] ∧ H' fnd = some (.lst (fs.map V.str)) ∧ fs.Perm ss ∧ Gs st c H H' (b + (fs.length : Int)))
      ⟨ss, [], rfl, by rw [upd_ne nlf, upd_same], by rw [upd_same]; rfl, List.Perm.refl _, by simpa using g0, rfl⟩ (fun nx hnx => ?_) ?_
    · rintro mm σ' H' ⟨ls, fs, rfl, h1, h2, hp, g, rfl⟩
      have hpl : fs.length + ls.length = ss.length := by rw [← List.length_append]; exact hp.length_eq
      have hls : ∀ s ∈ ls, PyData.strOk s = true := fun s hs => hok s (hp.mem_iff.mp (List.mem_append_right _ hs))
      refine ⟨_, rfl, Nat.zero_le _, fun e he => ⟨.list (ls.map PyData.str), .list [], ?_⟩⟩
      have h1' : upd H' e (.lst []) left = some (.lst (ls.map V.str)) := Same.new he _ _ h1
      have h2' : upd H' e (.lst []) fnd = some (.lst (fs.map V.str)) := Same.new he _ _ h2
      have g' : Gs st c H (upd H' e (.lst [])) (b + (fs.length : Int)) := g.new he
      refine ⟨.lst (SqL.of h1') (dpStrs ls), .lst (SqL.of upd_same) .nil, strs_shaped hls, by decide +kernel, _, rfl, ?_⟩
      rw [eqv_strs_nil]
      refine ite2 (fun hne => ?_) (fun hne => ?_)
      · have hpos : 0 < ls.length := by
          cases ls with
          | nil => cases hne
          | cons _ _ => exact Nat.succ_pos _
        refine ⟨_, fun _ _ z => z, ?_⟩
        refine ⟨_, rfl, .inl ⟨rfl, _, SqL.of h2'⟩, _, rfl, .inl ⟨rfl, _, SqL.of h1'⟩, _, rfl, _, rfl, _, _, rfl, .inl (SqL.of h1'), st, c, _, _, rfl, g'.sta, by omega, by rw [List.length_map]; omega, by rw [List.length_map]; omega, fun r o hr0 hr1 S' => ?_⟩
        rw [List.length_map] at hr1
        have g2 : Gs st c H (upd (upd H' e (.lst [])) st o) (b + (fs.length : Int) + 1) := g'.trans (Gs.of_upd S')
        have h1'' : upd (upd H' e (.lst [])) st o left = some (.lst (ls.map V.str)) := by rw [upd_ne nls]; exact h1'
        have h2'' : upd (upd H' e (.lst [])) st o fnd = some (.lst (fs.map V.str)) := by rw [upd_ne nfs]; exact h2'
        have hi : r.toNat < ls.length := by omega
        have hy : ls[r.toNat]? = some ls[r.toNat] := List.getElem?_eq_getElem hi
        refine ⟨_, _, _, r.toNat, _, rfl, rfl, h1'', by omega, by omega, ?_, by rw [List.getElem?_map, hy]; rfl, ?_⟩
        · rw [List.length_map]
          exact seqIx hr0 hr1
        · refine ⟨_, _, _, rfl, rfl, (by rw [upd_ne nlf.symm]; exact h2''), by rw [List.length_map]; exact Nat.lt_of_le_of_lt (show fs.length ≤ 64 by omega) (by decide), ?_⟩
          refine ⟨(ls.eraseIdx r.toNat).length, ?_, ls.eraseIdx r.toNat, fs ++ [ls[r.toNat]], rfl, ?_, ?_, (perm_move hy).trans hp, ?_, rfl⟩
          · rw [List.length_eraseIdx_of_lt hi]; omega
          · rw [upd_ne nlf, upd_same, map_erase]
          · rw [upd_same, List.map_append]; rfl
          · rw [List.length_append]
            refine Gs.le ((g2.set S.hc el nls).set S.hc ef nfs) (by simp; omega) (by simp; omega)
      · have hnil : ls = [] := by
          cases ls with
          | nil => rfl
          | cons _ _ => exact absurd rfl hne
        subst hnil
        exact hnx _ _ ⟨fs, rfl, h2', by rw [List.append_nil] at hp; exact hp, g'⟩
    · rintro σ' H' ⟨fs, rfl, h2, hp, g⟩
      refine ⟨_, rfl, k fnd fs H' hp (g.le (by have := hp.length_eq; omega) hb) (er_of nfs h2) ef⟩
end
end K5
set_option Elab.async false
set_option linter.all false
set_option maxRecDepth 100000
set_option maxHeartbeats 2000000
namespace EnT
open PySem PySem.Spec PyProof.Rows L2
/-! enumerate over a tuple, as a walk of the hand layer -/
theorem newOver {u : Value} {cell : Obj} {G : Heap → Prop} (B : Begins u cell G) :
    Meets (Builtin.«enumerate.__new__» ⟨[.type "enumerate", u], []⟩) (fun _ R z => G z.heap ∧
      R (.ok (.ret (.ref (z.heap.push cell).objs.size)))
        { z with heap := (z.heap.push cell).push { cls := .type "enumerate", data := .fields #[.none, .bool false, .ref z.heap.objs.size, rawInt 0, .none, .none] } }) :=
  .of_wp fun P w A R z hz => by
    obtain ⟨g0, gs, dr, tk, os⟩ := z; obtain ⟨hG, hR⟩ := hz
    have below := sub_enumerate
    have step : ∀ {A' : Around} {E : Value → Shared → Prop} {Q : Value → Shared → Prop}, Q (.ref g0.objs.size) ⟨g0.push cell, gs, dr, tk, os⟩ → wpAny (model P w) A' (pyIter u) Q E ⟨g0, gs, dr, tk, os⟩ :=
      fun z => B.iter P w _ _ ⟨g0, gs, dr, tk, os⟩ _ hG z
    wp_walk using step
    refine wpAny_stack_any fun _ => wpAny_pure ?_
    split
    · rename_i c _ _ _ _ _
      cases (c == Value.type "enumerate") <;> (wp_walk using step; exact ⟨_, rfl, hR⟩)
    · wp_walk using step
      exact ⟨_, rfl, hR⟩
theorem made {P : Program} {w : World} {A : Around} {E : Value → Shared → Prop} {z : Shared} {u : Value} {cell : Obj} {G : Heap → Prop} {Q : Value → Shared → Prop} (B : Begins u cell G) (hG : G z.heap)
    (k : ∀ g, IsEnum g (z.heap.objs.size + 1) z.heap.objs.size 0 .none → g.get? z.heap.objs.size = some cell → (∀ b o, z.heap.get? b = some o → g.get? b = some o) → Q (.ref (z.heap.objs.size + 1)) { z with heap := g }) :
    wpAny (model P w) A (call (.type "enumerate") [u]) Q E z := by
  refine callType_new F.called_enumerate (by decide) (F.typeCall_enumerate_1 _) (F.newCall_enumerate_1 _) (fun o => F.args_object_init_2 o _) F.entry_enumerate_new (newOver B) ⟨hG, ?_⟩
  have size : (z.heap.push cell).objs.size = z.heap.objs.size + 1 := Heap.size_push ..
  show _ ∧ _
  rw [size]
  generalize hg : (z.heap.push cell).push { cls := .type "enumerate", data := .fields #[.none, .bool false, .ref z.heap.objs.size, rawInt 0, .none, .none] } = g
  have top : IsEnum g (z.heap.objs.size + 1) z.heap.objs.size 0 .none := by
    rw [← hg, ← size]
    exact Heap.get?_push_size _ rfl
  refine ⟨⟨_, top, rfl⟩, k g top ?_ fun b o e => ?_⟩
  · rw [← hg]
    exact Heap.get?_push_of_some _ (Heap.get?_push_size _ B.free)
  · rw [← hg]
    exact Heap.get?_push_of_some _ (Heap.get?_push_of_some _ e)
/-- the tuple at a as it stands at each turn, each item in a new pair -/
def Iet (K : PySem.W.Frag) (a : Addr) : It where
  go i H := ∃ (ys : List V) (y : V), SqT K H a ys ∧ ys[i]? = some y
  yld i H v H' := ∃ T y, v = .ref T ∧ H T = none ∧ H' = upd H T (.tup [.int (i : Nat), y]) ∧ ∀ ys, SqT K H a ys → ys[i]? = some y
  stop i H := ∃ ys : List V, SqT K H a ys ∧ ys.length = i
theorem turns {P : Program} {w : World} {K : PySem.W.Frag} {elts : List Expr} {kk : Nat} {tpos : Pos} (a e j : Addr) :
    Turn P w K (.Tuple elts kk tpos) (Iet K a) [e, j] e (fun i g => (∃ old, IsEnum g e j ((i : Nat) : Int) old) ∧ g.IsTupleIter j a i ∧ e ≠ j) where
  mem := by simp
  obj := fun i g st b hb => by
    obtain ⟨⟨old, he⟩, ⟨o, ho, _, hd⟩, _⟩ := st
    have two : b = e ∨ b = j := by simpa using hb
    rcases two with q | q <;> subst q
    · exact ⟨_, he, fun v z => nomatch z⟩
    · exact ⟨o, ho, fun v z => by rw [hd] at z; cases z⟩
  keep := fun i g g' st k => by
    obtain ⟨⟨old, he⟩, hj, hne⟩ := st
    exact ⟨⟨old, k e (by simp) _ he⟩, hj.at fun o q => k j (by simp) o q, hne⟩
  item := by
    intro X hP hw hK hc i pins s σ H E I hf st hg
    subst hP hw hK
    obtain ⟨⟨old, he⟩, hj, hne⟩ := st
    obtain ⟨ys, y, hq, hy⟩ := hg
    obtain ⟨its, rv, p, _⟩ := I.tuple hq
    obtain ⟨u, hu, ru⟩ := rv.get hy
    have ht : s.heap.IsTuple a its.toArray := p
    have haj : a ≠ j := fun z => by
      obtain ⟨o1, e1, c1, _⟩ := hj
      obtain ⟨o2, e2, c2, _⟩ := ht
      rw [z, e1] at e2
      cases e2
      rw [c1] at c2
      exact absurd (Value.type.inj c2) (by decide)
    have hae : e ≠ a := fun z => by
      obtain ⟨o2, e2, c2, _⟩ := ht
      rw [← z, he] at e2
      cases e2
      exact absurd (Value.type.inj c2) (by decide)
    have lt : i < its.toArray.size := by
      have := rv.length
      have h1 := (List.getElem?_eq_some_iff.mp hy).1
      rw [List.size_toArray]
      omega
    have hel : e < s.heap.objs.size := Heap.lt_size he
    have hjl : j < s.heap.objs.size := by obtain ⟨_, q, _⟩ := hj; exact Heap.lt_size q
    refine wpAny_pyNext_enum_itemD (Draws.tuple (show X.A.in1.handled = none from I.ok.hd hc) j a haj its.toArray) he ⟨hj, ht⟩ lt hne (by simp [hne, hae]) fun x g tk hx ho hs hT hsz hk => ?_
    refine ⟨_, rfl, wpAny_letOwnedTupleGo_enum (s := { s with heap := g, toks := tk + 1 }) ho fun g' he' sb => ?_⟩
    have eu : x = u := by
      have h1 : its.toArray[i]? = some x := hx
      have h2 : its.toArray[i]? = some u := by simpa using hu
      rw [h1] at h2
      exact Option.some.inj h2
    subst eu
    have hT' : g'.get? s.heap.objs.size = some { cls := .type "tuple", data := .seq #[.int i tk, x] } := (sb.2 _ (Nat.ne_of_gt hel)).trans hT
    have fresh : ObjOk X.prog X.w (upd H s.heap.objs.size (.tup [.int (i : Nat), y])) g' s.heap.objs.size (.tup [.int (i : Nat), y]) :=
      ⟨by show 2 ≤ sizeLine; decide, [.int i tk, x], .cons ⟨_, rfl⟩ (.cons ru .nil), ⟨_, hT', rfl, _, rfl⟩⟩
    have I1 : Inv X pins σ (upd H s.heap.objs.size (.tup [.int (i : Nat), y])) { s with heap := g', toks := tk + 1 } :=
      I.turnedNew (ch := [e, j]) (fun b o hb q => (sb.2 b (fun z => hb (by simp [z]))).trans (hk b o (fun z => hb (by simp [z])) (fun z => hb (by simp [z])) q)) hf (Nat.le_refl _) fresh
    refine ⟨.ref s.heap.objs.size, _, I1, rfl, ⟨_, y, rfl, I.hok.fresh (Nat.le_refl _), rfl, fun zs hz => by rw [I.tuple_inj hz hq]; exact hy⟩, ⟨⟨x, ?_⟩, hs.1.at fun o q => (sb.2 j (Ne.symm hne)).trans q, hne⟩, fun b hb => ?_⟩
    · have e1 : ((i + 1 : Nat) : Int) = (i : Int) + 1 := by omega
      rw [e1]; exact he'
    · have old2 : b < s.heap.objs.size := by
        have two : b = e ∨ b = j := by simpa using hb
        rcases two with q | q <;> (rw [q]; assumption)
      rw [upd_ne (Nat.ne_of_lt old2)]
      exact (hf b hb).1
  done := by
    intro X hP hw hK hc i pins s σ H E I hf st hg
    subst hP hw hK
    obtain ⟨⟨old, he⟩, hj, hne⟩ := st
    obtain ⟨ys, hq, hy⟩ := hg
    obtain ⟨its, rv, p, _⟩ := I.tuple hq
    obtain ⟨f0, f1, f2, f3, f4, f5⟩ := hf j (by simp)
    have ht : s.heap.IsTuple a its.toArray := p
    have haj : a ≠ j := fun z => by
      obtain ⟨o1, e1, c1, _⟩ := hj
      obtain ⟨o2, e2, c2, _⟩ := ht
      rw [z, e1] at e2
      cases e2
      rw [c1] at c2
      exact absurd (Value.type.inj c2) (by decide)
    have sz : its.toArray.size = i := by
      have := rv.length
      rw [List.size_toArray]
      omega
    have D := Draws.tuple (prog := X.prog) (w := X.w) (show X.A.in1.handled = none from I.ok.hd hc) j a haj its.toArray
    rw [sz] at D
    exact wpAny_pyNext_enum_endD D he ⟨hj, ht⟩ fun g eb => ⟨rfl, I.turned (t' := s.toks) (fun b o hb q => eb b o hb q) f0 f1 f3 f4 f5⟩
  self := fun A i s Q E st k => by
    obtain ⟨⟨_, he⟩, _⟩ := st
    exact wpAny_pyIter_enum he k
def iEnumT (K : PySem.W.Frag) (ta : TA) : TI := fun σ H R => ta σ H fun vs H1 => ∃ a ys, vs = [V.ref a] ∧ SqT K H1 a ys ∧ R (Iet K a) H1
theorem pi_enumT {X : Cx} {e : Expr} {ta : TA} {p pos tpos : Pos} {elts : List Expr} {kk : Nat} (gl : Gl X "enumerate") (free : X.mg "enumerate" = none) (ha : PA X [e] ta) (hs : starEach [e] X.env = [(false, eval e X.env)] := by rfl) :
    PI X (.Tuple elts kk tpos) (.Call (.Name "enumerate" p) [e] [] pos) (iEnumT X.K ta) := by
  refine ⟨fun pins s σ H R I h => ?_⟩
  refine Call_ (ld_blt I gl free boot_enumerate (PyProof.Rows.callWith_type1 (thn (ha.run pos pins s σ H _ I h) fun us s1 ⟨vs, H1, I1, r1, q1⟩ => ?_) hs rfl))
  obtain ⟨a, ys, ex, hq, q⟩ := q1
  subst ex
  cases r1 with
  | cons r rr =>
    cases rr
    cases r
    obtain ⟨its, rv, p', _⟩ := I1.tuple hq
    have ht : s1.heap.IsTuple a its.toArray := p'
    refine made (begins_tuple a its.toArray) ht fun g he hj hk => wpAny_pyIter_enum he ?_
    have I2 : Inv X pins σ H1 { s1 with heap := g } := I1.kept (t' := s1.toks) hk
    refine ⟨s1.heap.objs.size + 1, [s1.heap.objs.size + 1, s1.heap.objs.size], _, _, H1, rfl, I2, turns a (s1.heap.objs.size + 1) s1.heap.objs.size, ⟨⟨.none, he⟩, ⟨_, hj, rfl, rfl⟩, Nat.succ_ne_self _⟩, fun b hb => ?_, q⟩
    have hle : s1.heap.objs.size ≤ b := by
      have two : b = s1.heap.objs.size + 1 ∨ b = s1.heap.objs.size := by simpa using hb
      rcases two with z | z <;> rw [z]
      · exact Nat.le_add_right _ _
      · exact Nat.le_refl _
    exact I1.fpOk hle (I1.hok.fresh hle)
/-- one of two walks -/
theorem pi_or {X : Cx} {tg e : Expr} {t u : TI} (h : PI X tg e t) (k : PI X tg e u) : PI X tg e (fun σ H R => t σ H R ∨ u σ H R) :=
  ⟨fun pins s σ H R I q => q.elim (h.run pins s σ H R I) (k.run pins s σ H R I)⟩
theorem walk_enumT {K : PySem.W.Frag} {a : Addr} {xs : List V} : Walk (Iet K a) xs.length (fun H => SqT K H a xs) (YPair (fun i => some (.int (i : Nat))) (fun i => xs[i]?)) :=
  ⟨fun _ _ hi q => ⟨xs, _, q, List.getElem?_eq_getElem hi⟩, fun _ q => ⟨xs, q, rfl⟩, fun i H v H' _ q y => by
    obtain ⟨T, x, h1, h2, h3, h4⟩ := y
    exact ⟨T, _, x, h1, h2, h3, rfl, h4 xs q⟩⟩
end EnT
set_option Elab.async false
set_option linter.all false
set_option maxRecDepth 100000
set_option maxHeartbeats 4000000
namespace K5
open PySem L2
local macro_rules | `(tactic| walk_at "rd1") => `(tactic| first
  | refine ⟨_, _, rfl, rfl, ?_⟩
  | refine ⟨_, _, _, _, rfl, rfl, SqL.of (by assumption), rfl, ?_⟩
  | refine ⟨_, _, _, _, rfl, rfl, (by assumption), rfl, ?_⟩
  | refine .inl ⟨_, rfl, ?_⟩
  | refine ⟨_, rfl, ?_⟩
  | refine ⟨(by unfold CMul; omega), ?_⟩
  | refine ⟨(by unfold CPow; omega), ?_⟩
  | refine ⟨(by (try dsimp only); omega), ?_⟩
  | refine ⟨(by unfold CDiv; omega), ?_⟩
  | fail "rd1")
local macro_rules | `(tactic| walk_at "rd") => `(tactic| repeat' (walk_at "rd1"))
section
variable {P : Program} {w : World} {K : PySem.W.Frag} {mg : Str → Option Value} {base : Heap} {A : Ad}

def pool1 : List Str := ["a", "b", "rice", "fish", "start", "done", "wish", "zz"]
def pool2 : List Str := ["station", "clocks", "abcdefgh", "meal", "go", "wait", "cloc", "on"]
def pool : List Str := ["a", "b", "rice", "fish", "start", "done", "wish", "zz", "station", "clocks", "abcdefgh", "meal", "go", "wait", "cloc", "on"]
theorem pool_nodup : pool.Nodup := by decide +kernel
theorem pool_ok : ∀ s ∈ pool, PyData.strOk s = true := by decide +kernel
def spNames (K : PySem.W.Frag) : Sp := fun vs H Q _ => ∃ (st c : Addr) (b : Int) (n : Nat), vs = [.ref st, .int n] ∧ Sta H st c b ∧ b + 64 ≤ 1000000 ∧ n ≤ 16 ∧
  ∀ (p : Addr) (ys : List Str) (H' : Hp), ys.Nodup → (∀ s ∈ ys, s ∈ pool) → ys.length = n → Gs st c H H' (b + 64) → er H' st p = some (.lst (ys.map V.str)) → er H st p = none → Q (.ref p) H'
theorem ok_names (T : Txt K mg A) : FnOk P w K mg base CX0 3 A.a__law_names A.d__law_names P__law_names (spNames K) := by
  have G__law_mix : FnOk P w K mg base CX0 2 A.a__law_mix A.d__law_mix P__law_mix (spMix K) := ok_mix T
  refine T.f__law_names.ok sc__law_names (fun vs H Q E h => ?_) (fun cdv A' outer s H vs Q E hr h => ?_)
  · obtain ⟨st, c, b, n, rfl, _⟩ := h
    rfl
  · obtain ⟨st, c, b, n, rfl, S, hb, hn, k⟩ := h
    refine ⟨_, (pss_cons (ps_set (i := 2) sc__law_names.nd rfl (Or.inl rfl) (pe_lst (pa_cons pe_str (pa_cons pe_str (pa_cons pe_str (pa_cons pe_str (pa_cons pe_str (pa_cons pe_str (pa_cons pe_str (pa_cons pe_str pa_nil))))))))))
 (pss_one (ps_ret (pe_slice sl_list (pe_call G__law_mix (hr.mono (by omega)) (by rfl) T.g__law_mix T.f__law_mix.kp T.b__law_mix .nil pass0 (pa_cons (pv 0) (pa_cons (pe_op op_cat (pv 2) (pe_lst (pa_cons pe_str (pa_cons pe_str (pa_cons pe_str (pa_cons pe_str (pa_cons pe_str (pa_cons pe_str (pa_cons pe_str (pa_cons pe_str pa_nil)))))))))) pa_nil))) po_none (po_some (pv 1)))))), ?_⟩
    refine ⟨by show 8 ≤ sizeLine; decide, fun p hp => ?_⟩
    refine ⟨_, rfl, _, rfl, by show 8 ≤ sizeLine; decide, fun q hq => ?_⟩
    have g1 : Gs st c H (upd (upd H p (.lst (pool1.map V.str))) q (.lst (pool2.map V.str))) b := ((Gs.refl S).new hp).new hq
    have h1 : upd (upd H p (.lst (pool1.map V.str))) q (.lst (pool2.map V.str)) p = some (.lst (pool1.map V.str)) := by
      rw [upd_ne (ne_of_none upd_same hq), upd_same]
    refine ⟨_, _, _, _, rfl, rfl, h1, upd_same, by show 16 ≤ sizeLine; decide, fun t ht => ?_⟩
    have nt := g1.sta.ne ht
    have g0 : Gs st c H (upd (upd (upd H p (.lst (pool1.map V.str))) q (.lst (pool2.map V.str))) t (.lst (pool1.map V.str ++ pool2.map V.str))) b := g1.new ht
    refine ⟨st, c, t, pool, b, rfl, g0.sta, hb, SqL.of (er_of nt upd_same), by decide, pool_ok, fun l ys H' hperm g hl hl0 => ?_⟩
    refine ⟨_, rfl, _, rfl, _, _, rfl, SqL.of ((er_same _ _) _ _ hl), fun d hd => ?_⟩
    have hlen : ys.length = 16 := by rw [hperm.length_eq]; rfl
    have ec : cutV (ys.map V.str) none (some (n : Int)) = (ys.take n).map V.str := by
      unfold cutV
      rw [HT.sIx_none, HT.sIx_nat, List.drop_zero, Nat.sub_zero, List.map_take, List.length_map, hlen, Nat.min_eq_left hn]
    have g3 : Gs st c H (upd H' d (.lst (cutV (ys.map V.str) none (some (n : Int))))) (b + 64) := (g0.trans g).new hd
    have hnd : ys.Nodup := hperm.nodup_iff.mpr pool_nodup
    refine k d (ys.take n) _ (hnd.sublist (List.take_sublist _ _)) (fun s hs => hperm.mem_iff.mp (List.mem_of_mem_take hs)) (by rw [List.length_take]; omega) g3 (er_of (g.sta.ne hd) ?_) ?_
    · rw [upd_same, ec]
    · have e0 := er_none (st := st) hd
      exact ((g0.trans g).same).free e0
end
end K5
set_option Elab.async false
set_option linter.all false
set_option maxRecDepth 100000
set_option maxHeartbeats 4000000
namespace K5
open PySem L2
local macro_rules | `(tactic| walk_at "rd1") => `(tactic| first
  | refine ⟨_, _, rfl, rfl, ?_⟩
  | refine ⟨_, _, _, _, rfl, rfl, SqL.of (by assumption), rfl, ?_⟩
  | refine ⟨_, _, _, _, rfl, rfl, (by assumption), rfl, ?_⟩
  | refine .inl ⟨_, rfl, ?_⟩
  | refine ⟨_, rfl, ?_⟩
  | refine ⟨(by unfold CMul; omega), ?_⟩
  | refine ⟨(by unfold CPow; omega), ?_⟩
  | refine ⟨(by (try dsimp only); omega), ?_⟩
  | refine ⟨(by unfold CDiv; omega), ?_⟩
  | fail "rd1")
local macro_rules | `(tactic| walk_at "rd") => `(tactic| repeat' (walk_at "rd1"))
section
variable {P : Program} {w : World} {K : PySem.W.Frag} {mg : Str → Option Value} {base : Heap} {A : Ad}

/-! ### data, and whether two are the same -/
def kindOf : PyData → String
  | .none => "NoneType"
  | .bool _ => "bool"
  | .int _ => "int"
  | .str _ => "str"
  | .list _ => "list"
  | .tuple _ => "tuple"
  | .dict _ => "dict"
theorem tyL {H : Hp} {a : Addr} {xs : List V} (h : SqL K H a xs) : TyX K H (.ref a) (.type "list") := by
  rcases h with (h | ⟨o, h⟩) | ⟨o, _, _, h1, h2, _⟩
  · exact .base (.lst h)
  · exact .base (.frz h)
  · exact .kList h1 h2
theorem tyT {H : Hp} {a : Addr} {xs : List V} (h : SqT K H a xs) : TyX K H (.ref a) (.type "tuple") := by
  rcases h with (h | ⟨o, h⟩) | ⟨o, _, _, h1, h2, _⟩
  · exact .base (.tup h)
  · exact .fTuple h
  · exact .kTuple h1 h2
theorem tyD {H : Hp} {v : V} {d : PyData} (h : Dp K H v d) : TyX K H v (.type (kindOf d)) := by
  cases h with
  | non => exact .base .non
  | bl b => exact .base (.bl b)
  | int i => exact .base (.int i)
  | str x => exact .base (.str x)
  | lst h _ => exact tyL h
  | tup h _ => exact tyT h
theorem kit2 {K : PySem.W.Frag} {a b c : String} {r s : Bool} (h : kitB a b = some r) (k : kitB a c = some s) : PySem.W.kitAny K (.type a) [.type b, .type c] = some (r || s) := by
  cases r with
  | true => exact kitAny_cons (kit_ty h) (fun z => nomatch z) (fun _ => rfl)
  | false => 
    refine kitAny_cons (kit_ty h) (fun _ => ?_) (fun z => nomatch z)
    cases s with
    | true => exact kitAny_cons (kit_ty k) (fun z => nomatch z) (fun _ => rfl)
    | false => exact kitAny_cons (kit_ty k) (fun _ => kitAny_nil) (fun z => nomatch z)
theorem kit3 {K : PySem.W.Frag} {a b c d : String} {r s t : Bool} (h : kitB a b = some r) (k : kitB a c = some s) (m : kitB a d = some t) : PySem.W.kitAny K (.type a) [.type b, .type c, .type d] = some (r || (s || t)) := by
  cases r with
  | true => exact kitAny_cons (kit_ty h) (fun z => nomatch z) (fun _ => rfl)
  | false =>
    have e := kit2 (K := K) k m
    rw [Bool.false_or]
    exact kitAny_cons (kit_ty h) (fun _ => e) (fun z => nomatch z)
theorem dpGet {H : Hp} : ∀ {vs : List V} {ds : List PyData} {i : Nat} {v : V}, DpAll K H vs ds → vs[i]? = some v → ∃ d, ds[i]? = some d ∧ Dp K H v d
  | _, _, 0, v, .cons a _, h => ⟨_, rfl, by rw [← Option.some.inj h]; exact a⟩
  | _, _, i + 1, v, .cons _ b, h => dpGet (i := i) b h
  | _, _, i, v, .nil, h => by simp at h
theorem dpLen {H : Hp} : ∀ {vs : List V} {ds : List PyData}, DpAll K H vs ds → vs.length = ds.length
  | _, _, .nil => rfl
  | _, _, .cons _ b => congrArg (· + 1) (dpLen b)
theorem walk_zipT {a b : Addr} {xs ys : List V} {n : Nat} (hn : n = min xs.length ys.length) : Walk (RZ.ItzT K a b) n (fun H => SqT K H a xs ∧ SqT K H b ys) (YPair (fun i => xs[i]?) (fun i => ys[i]?)) := by
  subst hn
  refine ⟨fun i H hi q => ⟨xs, ys, _, _, q.1, q.2, List.getElem?_eq_getElem (by omega), List.getElem?_eq_getElem (by omega)⟩, fun H q => ⟨xs, ys, q.1, q.2, by omega⟩, fun i H v H' hi q y => ?_⟩
  obtain ⟨T, x, z, e1, e2, e3, e4, e5⟩ := y
  exact ⟨T, x, z, e1, e2, e3, e4 _ q.1, e5 _ q.2⟩
mutual
/-- no list in it has more than a thousand things -/
def wid : PyData → Bool
  | .list xs | .tuple xs => decide (xs.length ≤ 1000) && widAll xs
  | _ => true
def widAll : List PyData → Bool
  | [] => true
  | x :: xs => wid x && widAll xs
end
theorem widAll_mem : ∀ {ds : List PyData} {d : PyData}, widAll ds = true → d ∈ ds → wid d = true
  | x :: xs, d, h, m => by
    simp only [widAll, Bool.and_eq_true] at h
    rcases List.mem_cons.mp m with e | m
    · rw [e]; exact h.1
    · exact widAll_mem h.2 m
theorem wid_parts {xs : List PyData} (h : wid (.list xs) = true ∨ wid (.tuple xs) = true) : xs.length ≤ 1000 ∧ widAll xs = true := by
  simp only [wid, Bool.and_eq_true, decide_eq_true_eq, or_self] at h
  exact h
/-- the promise of «same» for data of a depth below n -/
def spSame (K : PySem.W.Frag) (n : Nat) : Sp := fun vs H Q _ => ∃ (x y : V) (d : PyData), vs = [x, y] ∧ Dp K H x d ∧ Dp K H y d ∧ d.depth < n ∧ wid d = true ∧ ∀ H', Same H H' → Q (.bl true) H'
theorem no_fn {f : Addr} {fd : FuncData} {ps : List Str} {k : Nat} {sp : Sp} (h : ∀ vs H Q E, ¬ sp vs H Q E) : FnOk P w K mg base CX0 k f fd ps sp :=
  ⟨fun vs H Q E z => (h vs H Q E z).elim, fun _ _ _ _ _ _ _ _ _ _ _ _ _ z => (h _ _ _ _ z).elim⟩
theorem same_loop {J : It} {N n : Nat} {G : Hp → Prop} {xs ys : List V} {ds : List PyData} {H : Hp} {D : Addr} {x0 y0 : V} {Qd : Hp → Prop} (wk : Walk J N G (YPair (fun i => xs[i]?) (fun i => ys[i]?))) (hx : DpAll K H xs ds) (hy : DpAll K H ys ds)
    (hd : PyData.depthAll ds < n) (hw : widAll ds = true) (hN : N ≤ 1000) (hG : ∀ H', Same H H' → G H') (hD : H D = none) (hq : ∀ H', Same H H' → H' D = some (.lst ((List.replicate N true).map V.bl)) → Qd H') :
    ∃ W : Nat → Nat → Hp → Prop, (∃ m, W 0 m (upd H D (.lst []))) ∧ ∀ i m H, W i m H →
      (J.stop i H ∧ Qd H) ∨ (J.go i H ∧ ∃ Nx : Hp → Prop, (∀ H', Nx H' → ∃ m', m' < m ∧ W (i + 1) m' H') ∧ ∀ x H', J.yld i H x H' →
        gTup K 2 (gCons (gName 2) (gCons (gName 3) gNil)) x (wipe [some x0, some y0, none, none] [2, 3]) H' fun σ2 H2 => wipe σ2 [2, 3] = wipe [some x0, some y0, none, none] [2, 3] ∧ tYes σ2 H2 fun b H3 =>
        if b = true then (tCall (spSame K n) [] E0 (tCons (tVar 2) (tCons (tVar 3) tNil))) σ2 H3 fun y H4 => ∃ acc, H4 D = some (.lst acc) ∧ acc.length < sizeLine ∧ Nx (upd H4 D (.lst (acc ++ [y]))) else Nx H3) := by
  have same_upd : ∀ {H' : Hp} {o : HO}, Same H H' → Same H (upd H' D o) := fun s b u e => by
    rw [upd_ne (ne_of_none e hD)]; exact s _ _ e
  refine lc_it wk (fun i H' => Same H H' ∧ H' D = some (.lst ((List.replicate i true).map V.bl))) ⟨Same.new hD, upd_same⟩ (fun i H' _ p => hG H' p.1) ?_ (fun H' p => hq H' p.1 p.2)
  rintro i v H' H'' hi ⟨s1, hD'⟩ ⟨T, x, y, rfl, hT, rfl, hx', hy'⟩
  obtain ⟨d, hd1, dx⟩ := dpGet hx hx'
  obtain ⟨d', hd2, dy⟩ := dpGet hy hy'
  rw [hd1] at hd2
  cases hd2
  have hdep : d.depth < n := Nat.lt_of_le_of_lt (PyData.depth_le_depthAll ds d (List.mem_of_getElem? hd1)) hd
  have s2 := s1.trans (Same.new (o := .tup [x, y]) hT)
  refine ⟨T, [x, y], rfl, SqT.of upd_same, rfl, _, _, rfl, _, _, rfl, rfl, rfl, ?_⟩
  refine ⟨_, rfl, _, rfl, x, y, d, rfl, dpSame s2 dx, dpSame s2 dy, hdep, widAll_mem hw (List.mem_of_getElem? hd1), fun H3 s3 => ?_⟩
  have hD3 : H3 D = some (.lst ((List.replicate i true).map V.bl)) := s3 _ _ (Same.new hT _ _ hD')
  refine ⟨_, hD3, by rw [List.length_map, List.length_replicate]; exact Nat.lt_of_lt_of_le hi (Nat.le_trans hN (by decide)), same_upd (s2.trans s3), ?_⟩
  rw [upd_same, List.replicate_succ', List.map_append]
  rfl
theorem all_true (n : Nat) : (List.replicate n true).all id = true := by
  induction n with
  | zero => rfl
  | succ n ih => rw [List.replicate_succ, List.all_cons, ih]; rfl
theorem ok_same (T : Txt K mg A) : ∀ n : Nat, FnOk P w K mg base CX0 n A.a__law_same A.d__law_same P__law_same (spSame K n)
  | 0 => no_fn fun vs H Q E ⟨_, _, _, _, _, _, h, _⟩ => absurd h (Nat.not_lt_zero _)
  | n + 1 => by
    have G__law_same : FnOk P w K mg base CX0 n A.a__law_same A.d__law_same P__law_same (spSame K n) := ok_same T n
    refine T.f__law_same.ok sc__law_same (fun vs H Q E h => ?_) (fun cdv A' outer s H vs Q E hr h => ?_)
    · obtain ⟨x, y, d, rfl, _⟩ := h
      rfl
    · obtain ⟨x, y, d, rfl, hx, hy, hd, hw, k⟩ := h
      refine ⟨_, (pss_cons (ps_if (pt_val (pe_callB call_isiT (by rfl) T.isinstance (by decide +kernel) (pa_cons (pv 1) (pa_cons (pe_tup (pa_cons (pe_bltn (v := .ty "list") (u := .type "list") (by rfl) T.list (by decide +kernel) rfl) (pa_cons (pe_bltn (v := .ty "tuple") (u := .type "tuple") (by rfl) T.tuple (by decide +kernel) rfl) pa_nil))) pa_nil))))
 (pss_cons (ps_if (PW.pt (pw_or (pt_cmpR op_ne (pe_callB call_isi (by rfl) T.isinstance (by decide +kernel) (pa_cons (pv 0) (pa_cons (pe_bltn (v := .ty "list") (u := .type "list") (by rfl) T.list (by decide +kernel) rfl) pa_nil))) (pe_callB call_isi (by rfl) T.isinstance (by decide +kernel) (pa_cons (pv 1) (pa_cons (pe_bltn (v := .ty "list") (u := .type "list") (by rfl) T.list (by decide +kernel) rfl) pa_nil))) (nomark _)) (pw_or1 (pt_cmpR op_ne (pe_callB call_isi (by rfl) T.isinstance (by decide +kernel) (pa_cons (pv 0) (pa_cons (pe_bltn (v := .ty "tuple") (u := .type "tuple") (by rfl) T.tuple (by decide +kernel) rfl) pa_nil))) (pe_callB call_isi (by rfl) T.isinstance (by decide +kernel) (pa_cons (pv 1) (pa_cons (pe_bltn (v := .ty "tuple") (u := .type "tuple") (by rfl) T.tuple (by decide +kernel) rfl) pa_nil))) (nomark _)))))
 (pss_one (ps_ret pe_bl))
 pss_nil)
 (pss_one (ps_ret (pe_and (pe_cmpR op_eq (pe_callB call_len_seq (by rfl) T.len PySem.boot_len (pa_cons (pv 0) pa_nil)) (pe_callB call_len_seq (by rfl) T.len PySem.boot_len (pa_cons (pv 1) pa_nil)) (nomark _)) (pe_one (pe_callB (cr_all rfl) (by rfl) T.all (by decide +kernel) (pa_cons (pe_lc (own := [("_law_x", 2), ("_law_y", 3)]) (g := gTup K 2 (gCons (gName 2) (gCons (gName 3) gNil))) (by rfl) sc__law_same.nd (RZ.pi_zipA (by rfl) T.zip (pa_cons (pv 0) (pa_cons (pv 1) pa_nil))) (blkOk_by (N := N__law_same) (sc := defScope s__law_same) (by decide +kernel)) (fun _ _ _ _ _ => (pg_tup rfl (pgs_cons (pg_name (i := 2) sc__law_same.nd rfl (Or.inl rfl)) (pgs_cons (pg_name (i := 3) sc__law_same.nd rfl (Or.inl rfl)) pgs_nil)))) (fun _ _ _ _ _ => pts_nil) (fun _ _ _ _ _ => (pe_call G__law_same (hr.mono (by omega)) (by rfl) T.g__law_same T.f__law_same.kp T.b__law_same .nil pass0 (pa_cons (pv 2) (pa_cons (pv 3) pa_nil))))) pa_nil)))))))
 pss_nil)
 (pss_cons (ps_if (pt_val (pe_callB call_isi (by rfl) T.isinstance (by decide +kernel) (pa_cons (pv 1) (pa_cons (pe_bltn (v := .ty "int") (u := .type "int") (by rfl) T.int (by decide +kernel) rfl) pa_nil))))
 (pss_one (ps_ret (pe_and (pe_callB call_isi (by rfl) T.isinstance (by decide +kernel) (pa_cons (pv 0) (pa_cons (pe_bltn (v := .ty "int") (u := .type "int") (by rfl) T.int (by decide +kernel) rfl) pa_nil))) (pe_and (pe_cmpR op_eq (pe_callB call_isi (by rfl) T.isinstance (by decide +kernel) (pa_cons (pv 0) (pa_cons (pe_bltn (v := .ty "bool") (u := .type "bool") (by rfl) T.bool (by decide +kernel) rfl) pa_nil))) (pe_callB call_isi (by rfl) T.isinstance (by decide +kernel) (pa_cons (pv 1) (pa_cons (pe_bltn (v := .ty "bool") (u := .type "bool") (by rfl) T.bool (by decide +kernel) rfl) pa_nil))) (nomark _)) (pe_one (pe_cmpR op_eq (pv 0) (pv 1) (nomark _)))))))
 pss_nil)
 (pss_one (ps_ret (pe_and (pe_cmpR op_isBl (pe_callB call_isiT (by rfl) T.isinstance (by decide +kernel) (pa_cons (pv 0) (pa_cons (pe_tup (pa_cons (pe_bltn (v := .ty "int") (u := .type "int") (by rfl) T.int (by decide +kernel) rfl) (pa_cons (pe_bltn (v := .ty "list") (u := .type "list") (by rfl) T.list (by decide +kernel) rfl) (pa_cons (pe_bltn (v := .ty "tuple") (u := .type "tuple") (by rfl) T.tuple (by decide +kernel) rfl) pa_nil)))) pa_nil))) pe_bl (nomark _)) (pe_one (pe_cmpR op_eq (pv 0) (pv 1) (nomark _)))))))), ?_⟩
      -- isinstance(due, (list, tuple))
      refine ⟨_, rfl, by show 2 ≤ sizeLine; decide, fun p hp => ?_⟩
      have s1 : Same H (upd H p (.tup [.ty "list", .ty "tuple"])) := Same.new hp
      have hx1 := dpSame s1 hx
      have hy1 := dpSame s1 hy
      cases hx with
      | non =>
        cases hy
        refine ⟨_, p, _, _, _, false, rfl, upd_same, .cons (.ty _) (.cons (.ty _) .nil), .base .non, kit2 (a := "NoneType") (b := "list") (c := "tuple") (r := false) (s := false) (by decide +kernel) (by decide +kernel), _, rfl, iteF ?_⟩
        refine ⟨_, rfl, _, _, .type "NoneType", _, false, rfl, .ty _, .base .non, kit_ty (by decide +kernel), _, rfl, iteF ?_⟩
        refine ⟨_, rfl, by show 3 ≤ sizeLine; decide, fun q hq => ⟨_, q, _, _, _, false, rfl, upd_same, .cons (.ty _) (.cons (.ty _) (.cons (.ty _) .nil)), .base .non, kit3 (a := "NoneType") (b := "int") (c := "list") (d := "tuple") (r := false) (s := false) (t := false) (by decide +kernel) (by decide +kernel) (by decide +kernel), _, _, rfl, rfl, _, rfl, iteT ⟨_, rfl, _, rfl, rfl, ?_⟩⟩⟩
        exact k _ (s1.trans (Same.new hq))
      | str z =>
        cases hy
        refine ⟨_, p, _, _, _, false, rfl, upd_same, .cons (.ty _) (.cons (.ty _) .nil), .base (.str _), kit2 (a := "str") (b := "list") (c := "tuple") (r := false) (s := false) (by decide +kernel) (by decide +kernel), _, rfl, iteF ?_⟩
        refine ⟨_, rfl, _, _, .type "str", _, false, rfl, .ty _, .base (.str _), kit_ty (by decide +kernel), _, rfl, iteF ?_⟩
        refine ⟨_, rfl, by show 3 ≤ sizeLine; decide, fun q hq => ⟨_, q, _, _, _, false, rfl, upd_same, .cons (.ty _) (.cons (.ty _) (.cons (.ty _) .nil)), .base (.str _), kit3 (a := "str") (b := "int") (c := "list") (d := "tuple") (r := false) (s := false) (t := false) (by decide +kernel) (by decide +kernel) (by decide +kernel), _, _, rfl, rfl, _, rfl, iteT ⟨_, rfl, _, rfl, rfl, ?_⟩⟩⟩
        rw [decide_eq_true rfl]
        exact k _ (s1.trans (Same.new hq))
      | int i =>
        cases hy
        refine ⟨_, p, _, _, _, false, rfl, upd_same, .cons (.ty _) (.cons (.ty _) .nil), .base (.int _), kit2 (a := "int") (b := "list") (c := "tuple") (r := false) (s := false) (by decide +kernel) (by decide +kernel), _, rfl, iteF ?_⟩
        refine ⟨_, rfl, _, _, .type "int", _, true, rfl, .ty _, .base (.int _), kit_ty (by decide +kernel), _, rfl, iteT ?_⟩
        refine ⟨_, rfl, _, _, .type "int", _, true, rfl, .ty _, .base (.int _), kit_ty (by decide +kernel), _, rfl, iteT ?_⟩
        refine ⟨_, rfl, _, _, .type "int", _, false, rfl, .ty _, .base (.int _), kit_ty (by decide +kernel), _, rfl, _, _, .type "int", _, false, rfl, .ty _, .base (.int _), kit_ty (by decide +kernel), rfl, _, rfl, iteT ⟨_, rfl, _, rfl, rfl, ?_⟩⟩
        rw [decide_eq_true rfl]
        exact k _ s1
      | bl b =>
        cases hy
        refine ⟨_, p, _, _, _, false, rfl, upd_same, .cons (.ty _) (.cons (.ty _) .nil), .base (.bl _), kit2 (a := "bool") (b := "list") (c := "tuple") (r := false) (s := false) (by decide +kernel) (by decide +kernel), _, rfl, iteF ?_⟩
        refine ⟨_, rfl, _, _, .type "bool", _, true, rfl, .ty _, .base (.bl _), kit_ty (by decide +kernel), _, rfl, iteT ?_⟩
        refine ⟨_, rfl, _, _, .type "bool", _, true, rfl, .ty _, .base (.bl _), kit_ty (by decide +kernel), _, rfl, iteT ?_⟩
        refine ⟨_, rfl, _, _, .type "bool", _, true, rfl, .ty _, .base (.bl _), kit_ty (by decide +kernel), _, rfl, _, _, .type "bool", _, true, rfl, .ty _, .base (.bl _), kit_ty (by decide +kernel), rfl, _, rfl, iteT ⟨_, rfl, _, rfl, rfl, ?_⟩⟩
        rw [decide_eq_true rfl]
        exact k _ s1
      | lst hL hA =>
        cases hy with
        | lst hL2 hA2 =>
          obtain ⟨w1, w2⟩ := wid_parts (.inl hw)
          have l1 := dpLen hA
          have l2 := dpLen hA2
          have t1 := tyL (sqUp hL s1)
          have t2 := tyL (sqUp hL2 s1)
          refine ⟨_, p, _, _, _, true, rfl, upd_same, .cons (.ty _) (.cons (.ty _) .nil), t2, kit2 (a := "list") (b := "list") (c := "tuple") (r := true) (s := false) (by decide +kernel) (by decide +kernel), _, rfl, iteT ?_⟩
          refine ⟨_, rfl, _, _, .type "list", _, true, rfl, .ty _, t1, kit_ty (by decide +kernel), _, rfl, _, _, .type "list", _, true, rfl, .ty _, t2, kit_ty (by decide +kernel), rfl, _, rfl, iteF ?_⟩
          refine ⟨_, rfl, _, _, .type "list", _, false, rfl, .ty _, t1, kit_ty (by decide +kernel), _, rfl, _, _, .type "list", _, false, rfl, .ty _, t2, kit_ty (by decide +kernel), rfl, _, rfl, iteF ?_⟩
          refine ⟨_, rfl, _, _, rfl, .inl (sqUp hL s1), _, rfl, _, _, rfl, .inl (sqUp hL2 s1), rfl, true, ?_, iteT ?_⟩
          · rw [decide_eq_true (by rw [l1, l2])]
          · refine ⟨_, rfl, _, rfl, _, _, _, _, rfl, .inl ⟨sqUp hL s1, sqUp hL2 s1, fun D hD => same_loop (walk_zip rfl) (dpAllSame s1 hA) (dpAllSame s1 hA2) (by simp only [PyData.depth] at hd; omega) w2 (by omega) (fun H' s' => ⟨sqUp hL (s1.trans s'), sqUp hL2 (s1.trans s')⟩) hD (fun H' s' hD' => ?_)⟩⟩
            refine ⟨D, _, rfl, SqL.of hD', ?_⟩
            rw [all_true]
            exact k _ (s1.trans s')
      | tup hL hA =>
        cases hy with
        | tup hL2 hA2 =>
          obtain ⟨w1, w2⟩ := wid_parts (.inr hw)
          have l1 := dpLen hA
          have l2 := dpLen hA2
          have t1 := tyT (stUp hL s1)
          have t2 := tyT (stUp hL2 s1)
          refine ⟨_, p, _, _, _, true, rfl, upd_same, .cons (.ty _) (.cons (.ty _) .nil), t2, kit2 (a := "tuple") (b := "list") (c := "tuple") (r := false) (s := true) (by decide +kernel) (by decide +kernel), _, rfl, iteT ?_⟩
          refine ⟨_, rfl, _, _, .type "tuple", _, false, rfl, .ty _, t1, kit_ty (by decide +kernel), _, rfl, _, _, .type "tuple", _, false, rfl, .ty _, t2, kit_ty (by decide +kernel), rfl, _, rfl, iteF ?_⟩
          refine ⟨_, rfl, _, _, .type "tuple", _, true, rfl, .ty _, t1, kit_ty (by decide +kernel), _, rfl, _, _, .type "tuple", _, true, rfl, .ty _, t2, kit_ty (by decide +kernel), rfl, _, rfl, iteF ?_⟩
          refine ⟨_, rfl, _, _, rfl, .inr (stUp hL s1), _, rfl, _, _, rfl, .inr (stUp hL2 s1), rfl, true, ?_, iteT ?_⟩
          · rw [decide_eq_true (by rw [l1, l2])]
          · refine ⟨_, rfl, _, rfl, _, _, _, _, rfl, .inr ⟨stUp hL s1, stUp hL2 s1, fun D hD => same_loop (walk_zipT rfl) (dpAllSame s1 hA) (dpAllSame s1 hA2) (by simp only [PyData.depth] at hd; omega) w2 (by omega) (fun H' s' => ⟨stUp hL (s1.trans s'), stUp hL2 (s1.trans s')⟩) hD (fun H' s' hD' => ?_)⟩⟩
            refine ⟨D, _, rfl, SqL.of hD', ?_⟩
            rw [all_true]
            exact k _ (s1.trans s')
end
end K5
set_option Elab.async false
set_option linter.all false
set_option maxRecDepth 100000
set_option maxHeartbeats 4000000
namespace K5
open PySem L2
local macro_rules | `(tactic| walk_at "rd1") => `(tactic| first
  | refine ⟨_, _, rfl, rfl, ?_⟩
  | refine ⟨_, _, _, _, rfl, rfl, SqL.of (by assumption), rfl, ?_⟩
  | refine ⟨_, _, _, _, rfl, rfl, (by assumption), rfl, ?_⟩
  | refine .inl ⟨_, rfl, ?_⟩
  | refine ⟨_, rfl, ?_⟩
  | refine ⟨(by unfold CMul; omega), ?_⟩
  | refine ⟨(by unfold CPow; omega), ?_⟩
  | refine ⟨(by (try dsimp only); omega), ?_⟩
  | refine ⟨(by unfold CDiv; omega), ?_⟩
  | fail "rd1")
local macro_rules | `(tactic| walk_at "rd") => `(tactic| repeat' (walk_at "rd1"))
section
variable {P : Program} {w : World} {K : PySem.W.Frag} {mg : Str → Option Value} {base : Heap} {A : Ad}

/-! ### ascending names -/
def slt (x y : Str) : Prop := x.cps.toList < y.cps.toList
instance (x y : Str) : Decidable (slt x y) := inferInstanceAs (Decidable (x.cps.toList < y.cps.toList))
def sle (x y : Str) : Prop := ¬ slt y x
instance (x y : Str) : Decidable (sle x y) := inferInstanceAs (Decidable (¬ slt y x))
theorem sle_trans {x y z : Str} (a : sle x y) (b : sle y z) : sle x z :=
  fun h => (List.not_lt.mpr (List.le_trans (List.not_lt.mp a) (List.not_lt.mp b))) h
theorem sle_of_lt {x y : Str} (h : slt x y) : sle x y := fun k => List.lt_asymm h k
def rk (t : Str) (acc : List Str) : Nat := (acc.filter fun x => decide (sle x t)).length
theorem rk_le (t : Str) (acc : List Str) : rk t acc ≤ acc.length := List.length_filter_le _ _
theorem rise_perm (t : Str) (acc : List Str) (k : Nat) : (acc.take k ++ [t] ++ acc.drop k).Perm (acc ++ [t]) := by
  have h : (acc.take k ++ [t] ++ acc.drop k).Perm (acc.take k ++ acc.drop k ++ [t]) := by
    rw [List.append_assoc, List.append_assoc]
    exact List.Perm.append_left _ List.perm_append_comm
  rwa [List.take_append_drop] at h
theorem rk_zero {t : Str} : ∀ {acc : List Str}, (∀ x ∈ acc, slt t x) → rk t acc = 0
  | [], _ => rfl
  | x :: r, h => by
    have hx : decide (sle x t) = false := decide_eq_false fun k => k (h x (List.mem_cons_self ..))
    have e := rk_zero fun y hy => h y (List.mem_cons_of_mem _ hy)
    simp only [rk, List.filter_cons, hx] at e ⊢
    exact e
theorem rise_sorted (t : Str) : ∀ {acc : List Str}, acc.Pairwise sle → (acc.take (rk t acc) ++ [t] ++ acc.drop (rk t acc)).Pairwise sle
  | [], _ => by simp [rk]
  | x :: r, h => by
    rw [List.pairwise_cons] at h
    by_cases hx : sle x t
    · have e : rk t (x :: r) = rk t r + 1 := by
        simp only [rk, List.filter_cons, decide_eq_true hx, if_true, List.length_cons]
      rw [e, List.take_succ_cons, List.drop_succ_cons, List.cons_append, List.cons_append, List.pairwise_cons]
      refine ⟨fun y hy => ?_, rise_sorted t h.2⟩
      rcases List.mem_append.mp hy with hy | hy
      · rcases List.mem_append.mp hy with hy | hy
        · exact h.1 y (List.mem_of_mem_take hy)
        · rw [List.mem_singleton.mp hy]; exact hx
      · exact h.1 y (List.mem_of_mem_drop hy)
    · have lt : slt t x := Decidable.byContradiction fun k => hx k
      have e : rk t (x :: r) = 0 := rk_zero fun y hy => by
        rcases List.mem_cons.mp hy with q | q
        · rw [q]; exact lt
        · have := h.1 y q
          exact Decidable.byContradiction fun k => (sle_trans this k) lt
      rw [e, List.take_zero, List.drop_zero, List.nil_append, List.singleton_append, List.pairwise_cons]
      refine ⟨fun y hy => ?_, List.pairwise_cons.mpr h⟩
      rcases List.mem_cons.mp hy with q | q
      · rw [q]; exact sle_of_lt lt
      · exact sle_trans (sle_of_lt lt) (h.1 y q)
theorem str_at {ns : List Str} {i : Nat} {x : V} (h : (ns.map V.str)[i]? = some x) : ∃ hi : i < ns.length, x = V.str ns[i] := by
  have hi : i < ns.length := by
    have := (List.getElem?_eq_some_iff.mp h).1
    rwa [List.length_map] at this
  refine ⟨hi, ?_⟩
  rw [List.getElem?_map, List.getElem?_eq_getElem hi] at h
  exact (Option.some.inj h).symm
theorem take_map {α β : Type} (f : α → β) {xs : List α} {i : Nat} (hi : i < xs.length) : (xs.take (i + 1)).map f = (xs.take i).map f ++ [f xs[i]] := by
  rw [List.take_succ, List.getElem?_eq_getElem hi, List.map_append]; rfl
def spRising (K : PySem.W.Frag) : Sp := fun vs H Q _ => ∃ (t : Addr) (ss : List Str), vs = [.ref t] ∧ (SqL K H t (ss.map V.str) ∨ ∃ kv : List (Key × V), H t = some (.dK kv) ∧ kv.map (·.1) = ss.map Sum.inr) ∧ ss.length ≤ 64 ∧
  ∀ (p : Addr) (ys : List Str) (H' : Hp), ys.Perm ss → ys.Pairwise sle → H p = none → Same H H' → H' p = some (.lst (ys.map V.str)) → Q (.ref p) H'
theorem ok_rising (T : Txt K mg A) : FnOk P w K mg base CX0 1 A.a__law_rising A.d__law_rising P__law_rising (spRising K) := by
  refine T.f__law_rising.ok sc__law_rising (fun vs H Q E h => ?_) (fun cdv A' outer s H vs Q E hr h => ?_)
  · obtain ⟨t, ss, rfl, _⟩ := h
    rfl
  · obtain ⟨t, ss, rfl, hS | ⟨kv, hd, hk⟩, hl, k⟩ := h
    refine ⟨_, (pss_cons (ps_set (i := 1) sc__law_rising.nd rfl (Or.inl rfl) (pe_lst pa_nil))
 (pss_cons (ps_for PassesOwn.never rfl (pi_list (pv 0)) (pg_name (i := 2) sc__law_rising.nd rfl (Or.inr rfl))
 (pss_one (ps_expr (pe_bm PySem.F.plainAttrs_list PySem.F.slot_list_insert PySem.F.type_list_insert mt_insert (pv 1) (pa_cons (pe_callB call_len_seq (by rfl) T.len PySem.boot_len (pa_cons (pe_lc (own := [("_law_x", 3)]) (g := gName 3) (by rfl) sc__law_rising.nd (pi_list (pv 1)) (blkOk_by (N := N__law_rising) (sc := defScope s__law_rising) (by decide +kernel)) (fun _ _ _ _ _ => pg_name (i := 3) sc__law_rising.nd rfl (Or.inl rfl)) (fun _ _ _ _ _ => pts_one (pt_cmpR op_le_str (pv 3) (pv 2) (nomark _))) (fun _ _ _ _ _ => (pv 3))) pa_nil)) (pa_cons (pv 2) pa_nil))))))
 (pss_one (ps_ret (pv 1))))), ?_⟩
    have same_at : ∀ {p : Addr} {H' : Hp} {o : HO}, H p = none → Same H H' → Same H (upd H' p o) := fun hp s b u e => by
      rw [upd_ne (ne_of_none e hp)]; exact s _ _ e
    refine ⟨Nat.zero_le _, fun p hp => ?_⟩
    refine ⟨_, rfl, t, rfl, ⟨_, sqUp hS (Same.new hp)⟩, for_it (walk_list (K := K) (a := t)) (fun i σ' H' => ∃ x acc, σ' = [some (.ref t), some (.ref p), x, none] ∧ Same H H' ∧ H' p = some (.lst (acc.map V.str)) ∧ acc.Perm (ss.take i) ∧ acc.Pairwise sle)
      ⟨_, [], rfl, Same.new hp, upd_same, List.Perm.refl _, .nil⟩ (fun i σ' H' _ z => sqUp hS z.choose_spec.choose_spec.2.1) ?_ ?_⟩
    · rintro i v σ' H' H'' hi ⟨x, acc, rfl, s1, hacc, hperm, hsort⟩ ⟨rfl, hx⟩
      obtain ⟨hi, rfl⟩ := str_at hx
      have hal : acc.length ≤ 64 := by rw [hperm.length_eq, List.length_take]; omega
      refine ⟨_, rfl, .inl ⟨rfl, _, SqL.of hacc⟩, _, rfl, p, rfl, ⟨_, SqL.of hacc⟩, fun D hD => lc_it (walk_list (K := K) (a := p)) (fun j H3 => Same H'' H3 ∧ H3 D = some (.lst (((acc.take j).filter fun x => decide (sle x ss[i])).map V.str))) ⟨Same.new hD, upd_same⟩ (fun j H3 _ z => SqL.of (z.1 _ _ hacc)) ?_ (fun H3 z => ?_)⟩
      · rintro j y H3 H4 hj ⟨s3, hD3⟩ ⟨rfl, hy⟩
        obtain ⟨hj, rfl⟩ := str_at hy
        have et : (acc.take (j + 1)).filter (fun x => decide (sle x ss[i])) = (acc.take j).filter (fun x => decide (sle x ss[i])) ++ (if sle acc[j] ss[i] then [acc[j]] else []) := by
          rw [List.take_succ, List.getElem?_eq_getElem hj, List.filter_append]
          congr 1
          by_cases e : sle acc[j] ss[i] <;> simp [e]
        have hfl : (((acc.take j).filter fun x => decide (sle x ss[i])).map V.str).length ≤ 64 := by
          rw [List.length_map]
          refine Nat.le_trans (List.length_filter_le _ _) (by rw [List.length_take]; omega)
        refine ⟨rfl, _, rfl, _, rfl, _, _, rfl, rfl, _, rfl, ite2 (fun q => ?_) (fun q => ?_)⟩
        · have e : sle acc[j] ss[i] := fun z => by
            rw [decide_eq_true (show ss[i].cps.toList < acc[j].cps.toList from z)] at q
            cases q
          refine ⟨_, rfl, _, hD3, Nat.lt_of_le_of_lt hfl (by decide), ?_, ?_⟩
          · exact fun b u e => by rw [upd_ne (ne_of_none e hD)]; exact s3 _ _ e
          · rw [upd_same, et, if_pos e, List.map_append]; rfl
        · have e : ¬ sle acc[j] ss[i] := fun z => q (by rw [decide_eq_false (show ¬ ss[i].cps.toList < acc[j].cps.toList from z)]; rfl)
          exact ⟨s3, by rw [et, if_neg e, List.append_nil]; exact hD3⟩
      · obtain ⟨s3, hD3⟩ := z
        rw [List.length_map, List.take_length] at hD3
        have hk := rk_le ss[i] acc
        have ek : (((acc.filter fun x => decide (sle x ss[i])).map V.str).length : Int) = ((rk ss[i] acc : Nat) : Int) := by rw [List.length_map]; rfl
        refine ⟨D, _, rfl, .inl (SqL.of hD3), _, rfl, p, acc.map V.str, _, _, rfl, rfl, s3 _ _ hacc, by rw [List.length_map]; exact Nat.lt_of_le_of_lt hal (by decide), by omega, by omega, ?_⟩
        rw [ek, Int.toNat_natCast]
        refine ⟨_, acc.take (rk ss[i] acc) ++ [ss[i]] ++ acc.drop (rk ss[i] acc), rfl, same_at hp (s1.trans s3), ?_, ?_, rise_sorted ss[i] hsort⟩
        · rw [upd_same, List.map_append, List.map_append, List.map_take, List.map_drop]; rfl
        · rw [List.take_succ, List.getElem?_eq_getElem hi]
          exact (rise_perm _ _ _).trans (hperm.append_right _)
    · rintro σ' H' ⟨x, acc, rfl, s1, hacc, hperm, hsort⟩
      rw [List.length_map, List.take_length] at hperm
      exact ⟨_, rfl, k p acc H' hperm hsort hp s1 hacc⟩
    refine ⟨_, (pss_cons (ps_set (i := 1) sc__law_rising.nd rfl (Or.inl rfl) (pe_lst pa_nil))
 (pss_cons (ps_lock (ps_for PassesOwn.never rfl (pi_keys (pv 0)) (pg_name (i := 2) sc__law_rising.nd rfl (Or.inr rfl))
 (pss_one (ps_expr (pe_bm PySem.F.plainAttrs_list PySem.F.slot_list_insert PySem.F.type_list_insert mt_insert (pv 1) (pa_cons (pe_callB call_len_seq (by rfl) T.len PySem.boot_len (pa_cons (pe_lc (own := [("_law_x", 3)]) (g := gName 3) (by rfl) sc__law_rising.nd (pi_list (pv 1)) (blkOk_by (N := N__law_rising) (sc := defScope s__law_rising) (by decide +kernel)) (fun _ _ _ _ _ => pg_name (i := 3) sc__law_rising.nd rfl (Or.inl rfl)) (fun _ _ _ _ _ => pts_one (pt_cmpR op_le_str (pv 3) (pv 2) (nomark _))) (fun _ _ _ _ _ => (pv 3))) pa_nil)) (pa_cons (pv 2) pa_nil)))))))
 (pss_one (ps_ret (pv 1))))), ?_⟩
    refine ⟨Nat.zero_le _, fun p hp => ?_⟩
    have ntp : t ≠ p := ne_of_none hd hp
    have kl : kv.length = ss.length := by have := congrArg List.length hk; rwa [List.length_map, List.length_map] at this
    refine ⟨t, _, Same.new hp _ _ hd, trivial, fun od => ?_⟩
    have S0 : Same (er H t) (upd (upd H p (.lst [])) t (.frz od (.dK kv))) := fun b u e => by
      obtain ⟨n, e⟩ := er_some e
      rw [upd_ne n]; exact Same.new hp _ _ e
    have hf : upd (upd H p (.lst [])) t (.frz od (.dK kv)) t = some (.frz od (.dK kv)) := upd_same
    have hp0 : upd (upd H p (.lst [])) t (.frz od (.dK kv)) p = some (.lst []) := by rw [upd_ne ntp.symm]; exact upd_same
    refine ⟨_, rfl, t, od, rfl, .inl ⟨kv, upd_same, ?_⟩⟩
    have frp : ∀ b u, upd (upd H p (.lst [])) t (.frz od (.dK kv)) b = some u → b ≠ p → ∀ (H' : Hp), Same (er (upd (upd H p (.lst [])) t (.frz od (.dK kv))) p) H' → H' b = some u := fun b u e n H' s => s _ _ (er_of n e)
    generalize upd (upd H p (.lst [])) t (.frz od (.dK kv)) = Hf at S0 hf hp0 frp ⊢
    have same_at : ∀ {H' : Hp} {o : HO}, Same (er Hf p) H' → Same (er Hf p) (upd H' p o) := fun s b u e => by
      rw [upd_ne (er_some e).1]; exact s _ _ e
    refine for_it walk_keys (fun i σ' H' => ∃ x acc, σ' = [some (.ref t), some (.ref p), x, none] ∧ Same (er Hf p) H' ∧ H' p = some (.lst (acc.map V.str)) ∧ acc.Perm (ss.take i) ∧ acc.Pairwise sle)
      ⟨_, [], rfl, er_same _ _, hp0, List.Perm.refl _, .nil⟩ (fun i σ' H' _ z => z.choose_spec.choose_spec.2.1 _ _ (er_of ntp hf)) ?_ ?_
    · rintro i v σ' H' H'' hi ⟨x, acc, rfl, s1, hacc, hperm, hsort⟩ ⟨rfl, key, v', hkv, rfl⟩
      have hi : i < ss.length := by rw [← kl]; exact hi
      obtain rfl : key = .inr ss[i] := by
        have e : (kv.map (·.1))[i]? = some key := by rw [List.getElem?_map, hkv]; rfl
        rw [hk, List.getElem?_map, List.getElem?_eq_getElem hi] at e
        exact (Option.some.inj e).symm
      have hal : acc.length ≤ 64 := by rw [hperm.length_eq, List.length_take]; omega
      refine ⟨_, rfl, .inl ⟨rfl, _, SqL.of hacc⟩, _, rfl, p, rfl, ⟨_, SqL.of hacc⟩, fun D hD => lc_it (walk_list (K := K) (a := p)) (fun j H3 => Same H'' H3 ∧ H3 D = some (.lst (((acc.take j).filter fun x => decide (sle x ss[i])).map V.str))) ⟨Same.new hD, upd_same⟩ (fun j H3 _ z => SqL.of (z.1 _ _ hacc)) ?_ (fun H3 z => ?_)⟩
      · rintro j y H3 H4 hj ⟨s3, hD3⟩ ⟨rfl, hy⟩
        obtain ⟨hj, rfl⟩ := str_at hy
        have et : (acc.take (j + 1)).filter (fun x => decide (sle x ss[i])) = (acc.take j).filter (fun x => decide (sle x ss[i])) ++ (if sle acc[j] ss[i] then [acc[j]] else []) := by
          rw [List.take_succ, List.getElem?_eq_getElem hj, List.filter_append]
          congr 1
          by_cases e : sle acc[j] ss[i] <;> simp [e]
        have hfl : (((acc.take j).filter fun x => decide (sle x ss[i])).map V.str).length ≤ 64 := by
          rw [List.length_map]
          refine Nat.le_trans (List.length_filter_le _ _) (by rw [List.length_take]; omega)
        refine ⟨rfl, _, rfl, _, rfl, _, _, rfl, rfl, _, rfl, ite2 (fun q => ?_) (fun q => ?_)⟩
        · have e : sle acc[j] ss[i] := fun z => by
            rw [decide_eq_true (show ss[i].cps.toList < acc[j].cps.toList from z)] at q
            cases q
          refine ⟨_, rfl, _, hD3, Nat.lt_of_le_of_lt hfl (by decide), ?_, ?_⟩
          · exact fun b u e => by rw [upd_ne (ne_of_none e hD)]; exact s3 _ _ e
          · rw [upd_same, et, if_pos e, List.map_append]; rfl
        · have e : ¬ sle acc[j] ss[i] := fun z => q (by rw [decide_eq_false (show ¬ ss[i].cps.toList < acc[j].cps.toList from z)]; rfl)
          exact ⟨s3, by rw [et, if_neg e, List.append_nil]; exact hD3⟩
      · obtain ⟨s3, hD3⟩ := z
        rw [List.length_map, List.take_length] at hD3
        have hk := rk_le ss[i] acc
        have ek : (((acc.filter fun x => decide (sle x ss[i])).map V.str).length : Int) = ((rk ss[i] acc : Nat) : Int) := by rw [List.length_map]; rfl
        refine ⟨D, _, rfl, .inl (SqL.of hD3), _, rfl, p, acc.map V.str, _, _, rfl, rfl, s3 _ _ hacc, by rw [List.length_map]; exact Nat.lt_of_le_of_lt hal (by decide), by omega, by omega, ?_⟩
        rw [ek, Int.toNat_natCast]
        refine ⟨_, acc.take (rk ss[i] acc) ++ [ss[i]] ++ acc.drop (rk ss[i] acc), rfl, same_at (s1.trans s3), ?_, ?_, rise_sorted ss[i] hsort⟩
        · rw [upd_same, List.map_append, List.map_append, List.map_take, List.map_drop]; rfl
        · rw [List.take_succ, List.getElem?_eq_getElem hi]
          exact (rise_perm _ _ _).trans (hperm.append_right _)
    · rintro σ' H' ⟨x, acc, rfl, s1, hacc, hperm, hsort⟩
      rw [kl, List.take_length] at hperm
      refine ⟨s1 _ _ (er_of ntp hf), ⟨_, rfl, k p acc _ hperm hsort hp (fun b u e => ?_) (by rw [upd_ne ntp.symm]; exact hacc)⟩⟩
      by_cases hb : b = t
      · subst hb; rw [hd] at e; cases e; exact upd_same
      · rw [upd_ne hb]
        exact s1 _ _ (er_of (ne_of_none e hp) (S0 _ _ (er_of hb e)))
end
end K5
set_option Elab.async false
set_option linter.all false
set_option maxRecDepth 100000
set_option maxHeartbeats 4000000
namespace K5
open PySem L2
local macro_rules | `(tactic| walk_at "rd1") => `(tactic| first
  | refine ⟨_, _, rfl, rfl, ?_⟩
  | refine ⟨_, _, _, _, rfl, rfl, SqL.of (by assumption), rfl, ?_⟩
  | refine ⟨_, _, _, _, rfl, rfl, (by assumption), rfl, ?_⟩
  | refine .inl ⟨_, rfl, ?_⟩
  | refine ⟨_, rfl, ?_⟩
  | refine ⟨(by unfold CMul; omega), ?_⟩
  | refine ⟨(by unfold CPow; omega), ?_⟩
  | refine ⟨(by (try dsimp only); omega), ?_⟩
  | refine ⟨(by unfold CDiv; omega), ?_⟩
  | fail "rd1")
local macro_rules | `(tactic| walk_at "rd") => `(tactic| repeat' (walk_at "rd1"))
section
variable {P : Program} {w : World} {K : PySem.W.Frag} {mg : Str → Option Value} {base : Heap} {A : Ad}

theorem put_new : ∀ (acc : List (Key × V)) (k : Key) (v : V), k ∉ acc.map (·.1) → putK acc k v = acc ++ [(k, v)] := fun acc k v h => by
  unfold putK
  have e : (acc.any fun kv => decide (kv.1 = k)) = false := by
    rw [List.any_eq_false]
    intro p hp q
    exact h (List.mem_map.mpr ⟨p, hp, of_decide_eq_true q⟩)
  rw [e]
  rfl
/-- what is no tuple -/
def NoTup (u : HO) : Prop := (∀ zs, u ≠ .tup zs) ∧ ∀ o zs, u ≠ .frz o (.tup zs)
theorem tupEr {H : Hp} {D a : Addr} {u : HO} {xs : List V} (hD : H D = some u) (hu : NoTup u) (h : SqT K H a xs) : SqT K (er H D) a xs := by
  rcases h with (h | ⟨o, h⟩) | h
  · exact .inl (.inl (er_of (fun e => by rw [e, hD] at h; exact hu.1 _ (Option.some.inj h)) h))
  · exact .inl (.inr ⟨o, er_of (fun e => by rw [e, hD] at h; exact hu.2 _ _ (Option.some.inj h)) h⟩)
  · exact .inr h
theorem tupSet {E : Hp} {p a : Addr} {u o : HO} {xs : List V} (hp : E p = some u) (hu : NoTup u) (h : SqT K E a xs) : SqT K (upd E p o) a xs :=
  stUp (tupEr hp hu h) fun b w e => by rw [upd_ne (er_some e).1]; exact (er_some e).2
theorem noTup_dK (kvs : List (Key × V)) : NoTup (.dK kvs) := ⟨fun _ z => (nomatch z), fun _ _ z => (nomatch z)⟩
theorem not_in_take {ys : List Str} (h : ys.Nodup) {i : Nat} (hi : i < ys.length) : ys[i] ∉ ys.take i := by
  have e : ys.take (i + 1) = ys.take i ++ [ys[i]] := by rw [List.take_succ, List.getElem?_eq_getElem hi]; rfl
  have n : (ys.take i ++ [ys[i]]).Nodup := by rw [← e]; exact h.sublist (List.take_sublist _ _)
  rw [List.nodup_append] at n
  exact fun m => n.2.2 _ m _ (List.mem_singleton.mpr rfl) rfl
def spWith : Sp := fun vs H Q _ => ∃ (d : Addr) (k : Key) (v : V) (kvs : List (Key × V)), vs = [.ref d, kV k, v] ∧ Rd H d (.dK kvs) ∧ kvs.length ≤ 1000 ∧
  ∀ (p : Addr) (H' : Hp), H p = none → Same H H' → H' p = some (.dK (putK kvs k v)) → Q (.ref p) H'
theorem ok_with (T : Txt K mg A) : FnOk P w K mg base CX0 1 A.a__law_with A.d__law_with P__law_with spWith := by
  refine T.f__law_with.ok sc__law_with (fun vs H Q E h => ?_) (fun cdv A' outer s H vs Q E hr h => ?_)
  · obtain ⟨d, k, v, kvs, rfl, _⟩ := h
    rfl
  · obtain ⟨d, key, v, kvs, rfl, hd, hl, k⟩ := h
    refine ⟨_, (pss_cons (ps_set (i := 3) sc__law_with.nd rfl (Or.inl rfl) (pe_callTy call_dictD (by rfl) T.dict (by decide +kernel) (pa_cons (pv 0) pa_nil)))
 (pss_cons (ps_dput (hu_of hr) (pv 3) (pv 1) (pv 2) rfl)
 (pss_one (ps_ret (pv 3))))), ?_⟩
    refine ⟨_, rfl, d, kvs, rfl, hd, fun p hp => ?_⟩
    refine ⟨_, rfl, _, rfl, _, rfl, p, _, rfl, .inl ⟨kvs, key, upd_same, rfl, Nat.lt_of_le_of_lt hl (by decide), rfl⟩, _, rfl, k p _ hp ?_ upd_same⟩
    exact fun b u e => by rw [upd_ne (ne_of_none e hp), upd_ne (ne_of_none e hp)]; exact e
/-- dishes with bounds, as a dict that stands in E -/
structure DishD (K : PySem.W.Frag) (E : Hp) (p : Addr) (ks : List Str) (kvs : List (Key × V)) : Prop where
  at_ : E p = some (.dK kvs)
  keys : kvs.map (·.1) = ks.map Sum.inr
  vals : ∀ (i : Nat) (k : Key) (v : V), kvs[i]? = some (k, v) → ∃ (b : Addr) (l m : Int), v = .ref b ∧ SqT K E b [.int l, .int m] ∧ 1 ≤ l ∧ l ≤ m ∧ m ≤ 100000
def spDishes (K : PySem.W.Frag) : Sp := fun vs H Q _ => ∃ (st c t : Addr) (ns : List Str) (b wide : Int), vs = [.ref st, .ref t, .int wide] ∧ Sta H st c b ∧ b + 200 ≤ 1000000 ∧ SqL K (er H st) t (ns.map V.str) ∧ ns.length ≤ 64 ∧ ns.Nodup ∧ (∀ s ∈ ns, PyData.strOk s = true) ∧ 0 < wide ∧ wide ≤ 10000 ∧
  ∀ (p : Addr) (ks : List Str) (kvs : List (Key × V)) (H' : Hp), ks.Perm ns → Gs st c H H' (b + 200) → DishD K (er H' st) p ks kvs → er H st p = none → Q (.ref p) H'
theorem ok_dishes (T : Txt K mg A) : FnOk P w K mg base CX0 3 A.a__law_dishes A.d__law_dishes P__law_dishes (spDishes K) := by
  have G__law_take : FnOk P w K mg base CX0 1 A.a__law_take A.d__law_take P__law_take spTake := ok_take T
  have G__law_mix : FnOk P w K mg base CX0 2 A.a__law_mix A.d__law_mix P__law_mix (spMix K) := ok_mix T
  refine T.f__law_dishes.ok sc__law_dishes (fun vs H Q E h => ?_) (fun cdv A' outer s H vs Q E hr h => ?_)
  · obtain ⟨st, c, t, ns, b, wide, rfl, _⟩ := h
    rfl
  · obtain ⟨st, c, t, ns, b, wide, rfl, S, hb, hS, hl, hnd, hok, hw0, hw1, k⟩ := h
    refine ⟨_, (pss_cons (ps_set (i := 3) sc__law_dishes.nd rfl (Or.inl rfl) pe_dnewK)
 (pss_cons (ps_for PassesOwn.never rfl (pi_list (pe_call G__law_mix (hr.mono (by omega)) (by rfl) T.g__law_mix T.f__law_mix.kp T.b__law_mix .nil pass0 (pa_cons (pv 0) (pa_cons (pv 1) pa_nil)))) (pg_name (i := 4) sc__law_dishes.nd rfl (Or.inl rfl))
 (pss_cons (ps_set (i := 5) sc__law_dishes.nd rfl (Or.inl rfl) (pe_op op_add pe_int (pe_call G__law_take (hr.mono (by omega)) (by rfl) T.g__law_take T.f__law_take.kp T.b__law_take .nil pass0 (pa_cons (pv 0) (pa_cons pe_int pa_nil)))))
 (pss_one (ps_dput (hu_of hr) (pv 3) (pv 4) (pe_tup (pa_cons (pv 5) (pa_cons (pe_op op_add (pv 5) (pe_call G__law_take (hr.mono (by omega)) (by rfl) T.g__law_take T.f__law_take.kp T.b__law_take .nil pass0 (pa_cons (pv 0) (pa_cons (pv 2) pa_nil)))) pa_nil))) rfl))))
 (pss_one (ps_ret (pv 3))))), ?_⟩
    intro p hp
    have mp := S.ne hp
    have ep := er_none (st := st) hp
    have g0 := (Gs.refl S).new hp (o := .dK [])
    refine ⟨_, rfl, _, rfl, st, c, t, ns, b, rfl, g0.sta, by omega, sqUp hS g0.same, hl, hok, fun q ys H1 hperm g1 hq hq0 => ?_⟩
    have yN : ys.Nodup := hperm.nodup_iff.mpr hnd
    have yl : ys.length ≤ 64 := by rw [hperm.length_eq]; exact hl
    have hpH1 : H1 p = some (.dK []) := (er_same _ _) _ _ (g1.same _ _ (er_of mp upd_same))
    have g1 := g0.trans g1
    have npq : p ≠ q := ne_of hpH1 ((er_same _ _) _ _ hq) (fun z => nomatch z)
    refine ⟨q, rfl, ⟨_, SqL.of ((er_same _ _) _ _ hq)⟩, for_it (walk_list (K := K) (a := q)) (fun i σ' H' => ∃ x y kvs, σ' = [some (.ref st), some (.ref t), some (.int wide), some (.ref p), x, y] ∧ Gs st c H H' (b + 64 + 2 * (i : Int)) ∧ er H' st q = some (.lst (ys.map V.str)) ∧ DishD K (er H' st) p (ys.take i) kvs)
      ⟨_, _, [], rfl, by simpa using g1, hq, ⟨er_of mp hpH1, rfl, fun _ _ _ h => by simp at h⟩⟩ (fun i σ' H' _ z => SqL.of ((er_same _ _) _ _ z.choose_spec.choose_spec.choose_spec.2.2.1)) ?_ ?_⟩
    · rintro i v σ' H' H'' hi ⟨x, y, kvs, rfl, g, hq', hD⟩ ⟨rfl, hx⟩
      obtain ⟨hi, rfl⟩ := str_at hx
      refine ⟨_, rfl, st, c, 6, _, rfl, g.sta, by omega, by omega, by omega, fun r o hr0 hr1 S1 => ⟨_, _, rfl, rfl, ?_⟩⟩
      have g1 := g.trans (Gs.of_upd S1)
      have e1 : er (upd H'' st o) st = er H'' st := er_upd ..
      refine ⟨_, rfl, _, rfl, _, rfl, _, rfl, st, c, wide, _, rfl, g1.sta, by omega, hw0, by omega, fun r2 o2 hs0 hs1 S2 => ⟨_, _, rfl, rfl, by show 2 ≤ sizeLine; decide, fun d nd => ?_⟩⟩
      have g2 := (g1.trans (Gs.of_upd S2)).new nd (o := .tup [.int (1 + r), .int (1 + r + r2)])
      have sE : Same (er H'' st) (er (upd (upd (upd H'' st o) st o2) d (.tup [.int (1 + r), .int (1 + r + r2)])) st) := by
        have z : Same (er H'' st) (er (upd (upd H'' st o) st o2) st) := by rw [er_upd, er_upd]; exact Same.refl _
        exact z.trans (er_mono (Same.new nd))
      have md := (g1.trans (Gs.of_upd S2)).sta.ne nd
      have hd : er (upd (upd (upd H'' st o) st o2) d (.tup [.int (1 + r), .int (1 + r + r2)])) st d = some (.tup [.int (1 + r), .int (1 + r + r2)]) := er_of md upd_same
      generalize upd (upd (upd H'' st o) st o2) d (.tup [.int (1 + r), .int (1 + r + r2)]) = Ha at g2 sE hd ⊢
      have ea := sE _ _ hD.at_
      have hk : (Sum.inr ys[i] : Key) ∉ kvs.map (·.1) := by
        rw [hD.keys]
        intro m
        obtain ⟨z, hz, ez⟩ := List.mem_map.mp m
        exact not_in_take yN hi (by rw [← Sum.inr.inj ez]; exact hz)
      have kl : kvs.length = i := by
        have := congrArg List.length hD.keys
        rw [List.length_map, List.length_map, List.length_take] at this
        omega
      refine ⟨_, rfl, _, rfl, p, _, rfl, .inl ⟨kvs, .inr ys[i], (er_same _ _) _ _ ea, rfl, by rw [kl]; exact Nat.lt_of_lt_of_le (show i < 65 by omega) (by decide), rfl⟩, ?_⟩
      rw [put_new kvs _ _ hk]
      refine ⟨_, _, kvs ++ [(.inr ys[i], .ref d)], rfl, (g2.le (by omega) (by omega)).set S.hc ep mp, ?_, ?_⟩
      · rw [er_updp mp, upd_ne npq.symm]; exact sE _ _ hq'
      · rw [er_updp mp]
        refine ⟨upd_same, ?_, fun n key w hn => ?_⟩
        · rw [List.map_append, hD.keys, List.take_succ, List.getElem?_eq_getElem hi, List.map_append]; rfl
        · rcases Nat.lt_or_ge n kvs.length with lt | ge
          · rw [List.getElem?_append_left lt] at hn
            obtain ⟨b2, l, m, e1, e2, e3⟩ := hD.vals n key w hn
            exact ⟨b2, l, m, e1, tupSet ea (noTup_dK _) (stUp e2 sE), e3⟩
          · rw [List.getElem?_append_right ge] at hn
            have e0 : n - kvs.length = 0 := by
              rcases Nat.eq_zero_or_pos (n - kvs.length) with z | z
              · exact z
              · rw [List.getElem?_eq_none (by simp; omega)] at hn
                cases hn
            rw [e0] at hn
            cases hn
            exact ⟨d, _, _, rfl, tupSet ea (noTup_dK _) (SqT.of hd), by omega, by omega, by omega⟩
    · rintro σ' H' ⟨x, y, kvs, rfl, g, hq', hD⟩
      rw [List.length_map, List.take_length] at hD
      exact ⟨_, rfl, k p ys kvs H' hperm (g.le (by rw [List.length_map]; omega) (by omega)) hD ep⟩
end
end K5
set_option Elab.async false
set_option linter.all false
set_option maxRecDepth 100000
set_option maxHeartbeats 4000000
namespace K5
open PySem L2
local macro_rules | `(tactic| walk_at "rd1") => `(tactic| first
  | refine ⟨_, _, rfl, rfl, ?_⟩
  | refine ⟨_, _, _, _, rfl, rfl, SqL.of (by assumption), rfl, ?_⟩
  | refine ⟨_, _, _, _, rfl, rfl, (by assumption), rfl, ?_⟩
  | refine .inl ⟨_, rfl, ?_⟩
  | refine ⟨_, rfl, ?_⟩
  | refine ⟨(by unfold CMul; omega), ?_⟩
  | refine ⟨(by unfold CPow; omega), ?_⟩
  | refine ⟨(by (try dsimp only); omega), ?_⟩
  | refine ⟨(by unfold CDiv; omega), ?_⟩
  | fail "rd1")
local macro_rules | `(tactic| walk_at "rd") => `(tactic| repeat' (walk_at "rd1"))
section
variable {P : Program} {w : World} {K : PySem.W.Frag} {mg : Str → Option Value} {base : Heap} {A : Ad}

inductive MomN (ns : List Str) : PyData → Prop
  | clock : MomN ns (.str "clock")
  | edge {e n : Str} (he : e = "start" ∨ e = "done") (hn : n ∈ ns) : MomN ns (.tuple [.str e, .str n])
inductive WshN (ns : List Str) : PyData → Prop
  | mk {a b : PyData} {m : Int} (ha : MomN ns a) (hb : MomN ns b) : WshN ns (.tuple [a, b, .int m])
theorem ifs_ex {c : TT} {t u : TS} {D : Ends} {σ : St} {H : Hp} (Ex : St → Hp → Prop) (h : ∀ nx : St → Hp → Prop, (∀ σ H, Ex σ H → nx σ H) → tIfS c t u { D with nx := nx } σ H) (hd : ∀ σ H, Ex σ H → D.nx σ H) : tIfS c t u D σ H := h D.nx hd
def spMomN (K : PySem.W.Frag) : Sp := fun vs H Q _ => ∃ (st c t : Addr) (ns : List Str) (b : Int), vs = [.ref st, .ref t] ∧ Sta H st c b ∧ b + 3 ≤ 1000000 ∧ SqL K (er H st) t (ns.map V.str) ∧ ns.length ≤ 64 ∧ (∀ s ∈ ns, PyData.strOk s = true) ∧
  ∀ (v : V) (d : PyData) (H' : Hp), Gs st c H H' (b + 3) → Dp K (er H' st) v d → MomN ns d → Q v H'
theorem ok_momn (T : Txt K mg A) : FnOk P w K mg base CX0 3 A.a__law_moment A.d__law_moment P__law_moment (spMomN K) := by
  have G__law_take : FnOk P w K mg base CX0 1 A.a__law_take A.d__law_take P__law_take spTake := ok_take T
  have G__law_one : FnOk P w K mg base CX0 2 A.a__law_one A.d__law_one P__law_one (spOne K) := ok_one T
  refine T.f__law_moment.ok sc__law_moment (fun vs H Q E h => ?_) (fun cdv A' outer s H vs Q E hr h => ?_)
  · obtain ⟨st, c, t, ns, b, rfl, _⟩ := h
    rfl
  · obtain ⟨st, c, t, ns, b, rfl, S, hb, hS, hl, hok, k⟩ := h
    refine ⟨_, (pss_cons (ps_if (PW.pt (pw_or (pt_cmpR (op_eqD hr.units) (pv 1) (pe_lst pa_nil) (nomark _)) (pw_or1 (pt_cmpR op_eq (pe_call G__law_take (hr.mono (by omega)) (by rfl) T.g__law_take T.f__law_take.kp T.b__law_take .nil pass0 (pa_cons (pv 0) (pa_cons pe_int pa_nil))) pe_int (nomark _)))))
 (pss_one (ps_ret pe_str))
 pss_nil)
 (pss_one (ps_ret (pe_tup (pa_cons (pe_call G__law_one (hr.mono (by omega)) (by rfl) T.g__law_one T.f__law_one.kp T.b__law_one .nil pass0 (pa_cons (pv 0) (pa_cons (pe_lst (pa_cons pe_str (pa_cons pe_str (pa_cons pe_str pa_nil)))) pa_nil))) (pa_cons (pe_call G__law_one (hr.mono (by omega)) (by rfl) T.g__law_one T.f__law_one.kp T.b__law_one .nil pass0 (pa_cons (pv 0) (pa_cons (pv 1) pa_nil))) pa_nil)))))), ?_⟩
    refine ⟨_, rfl, Nat.zero_le _, fun e he => ⟨.list (ns.map PyData.str), .list [], .lst (sqUp (sqEr hS) (Same.new he)) (dpStrs ns), .lst (SqL.of upd_same) .nil, strs_shaped hok, by decide +kernel, _, rfl, ?_⟩⟩
    have g1 := (Gs.refl S).new he (o := .lst [])
    have hS1 := sqUp hS g1.same
    generalize upd H e (.lst []) = H1 at g1 hS1 ⊢
    rw [eqv_strs_nil]
    refine ite2 (fun _ => ?_) (fun hne => ?_)
    · exact iteT (k _ _ _ (g1.le (by omega) hb) (.str _) .clock)
    · refine ⟨_, rfl, st, c, 6, _, rfl, g1.sta, by omega, by omega, by omega, fun r o hr0 hr1 S1 => ⟨rfl, _, rfl, ?_⟩⟩
      have g2 := g1.trans (Gs.of_upd S1)
      have hS2 : SqL K (er (upd H1 st o) st) t (ns.map V.str) := by rw [er_upd]; exact hS1
      generalize upd H1 st o = H2 at g2 hS2 ⊢
      refine ite2 (fun _ => k _ _ _ (g2.le (by omega) hb) (.str _) .clock) (fun _ => ?_)
      have pos : 0 < ns.length := by
        cases ns with
        | nil => exact absurd rfl hne
        | cons _ _ => exact Nat.succ_pos _
      refine ⟨_, rfl, by show 3 ≤ sizeLine; decide, fun q nq => ?_⟩
      have mq := g2.sta.ne nq
      have g3 := g2.new nq (o := .lst [.str "done", .str "start", .str "done"])
      have hS3 := sqUp hS2 (er_mono (st := st) (Same.new (o := .lst [.str "done", .str "start", .str "done"]) nq))
      refine ⟨st, c, q, _, _, rfl, g3.sta, by omega, SqL.of (er_of mq upd_same), by show 0 < 3; decide, by show 3 < 1073741824; decide, fun i v H4 hv g4 => ?_⟩
      obtain ⟨e, rfl, he⟩ : ∃ e : Str, v = V.str e ∧ (e = "start" ∨ e = "done") := by
        have hm := List.mem_of_getElem? hv
        simp only [List.mem_cons, List.not_mem_nil, or_false] at hm
        rcases hm with z | z | z
        · exact ⟨_, z, .inr rfl⟩
        · exact ⟨_, z, .inl rfl⟩
        · exact ⟨_, z, .inr rfl⟩
      have hS4 := sqUp hS3 g4.same
      have g4 := g3.trans g4
      refine ⟨_, rfl, _, rfl, st, c, t, _, _, rfl, g4.sta, by omega, hS4, by rw [List.length_map]; exact pos, by rw [List.length_map]; omega, fun j w H5 hw g5 => ?_⟩
      obtain ⟨hj, rfl⟩ := str_at hw
      have g5 := g4.trans g5
      refine ⟨by show 2 ≤ sizeLine; decide, fun d nd => ?_⟩
      have md := g5.sta.ne nd
      exact k _ _ _ ((g5.new nd).le (by omega) hb) (.tup (SqT.of (er_of md upd_same)) (.cons (.str e) (.cons (.str ns[j]) .nil))) (.edge he (List.getElem_mem hj))
theorem momnNoRef {ns : List Str} {E E' : Hp} {v : V} {d : PyData} {p : Addr} {u : HO} (hp : E p = some u) (hu : NoTup u) (h : Dp K E v d) (m : MomN ns d) (s : Same (er E p) E') : Dp K E' v d := by
  cases m with
  | clock => cases h; exact .str _
  | edge he hn =>
    cases h with
    | tup hq hA =>
      cases hA with
      | cons h1 hA =>
        cases h1
        cases hA with
        | cons h2 hA =>
          cases h2
          cases hA
          exact .tup (stUp (tupEr hp hu hq) s) (.cons (.str _) (.cons (.str _) .nil))
theorem wshnNoRef {ns : List Str} {E E' : Hp} {v : V} {d : PyData} {p : Addr} {u : HO} (hp : E p = some u) (hu : NoTup u) (h : Dp K E v d) (m : WshN ns d) (s : Same (er E p) E') : Dp K E' v d := by
  cases m with
  | mk ha hb =>
    cases h with
    | tup hq hA =>
      cases hA with
      | cons h1 hA =>
        cases hA with
        | cons h2 hA =>
          cases hA with
          | cons h3 hA =>
            cases h3
            cases hA
            exact .tup (stUp (tupEr hp hu hq) s) (.cons (momnNoRef hp hu h1 ha s) (.cons (momnNoRef hp hu h2 hb s) (.cons (.int _) .nil)))
theorem wshnAll {ns : List Str} {E E' : Hp} {p : Addr} {u : HO} (hp : E p = some u) (hu : NoTup u) (s : Same (er E p) E') : ∀ {vs : List V} {ds : List PyData}, DpAll K E vs ds → (∀ d ∈ ds, WshN ns d) → DpAll K E' vs ds
  | _, _, .nil, _ => .nil
  | _, _, .cons a b, m => .cons (wshnNoRef hp hu a (m _ (List.mem_cons_self ..)) s) (wshnAll hp hu s b fun d hd => m d (List.mem_cons_of_mem _ hd))
/-- a list of wishes over the names -/
structure WLn (K : PySem.W.Frag) (E : Hp) (p : Addr) (ns : List Str) (ds : List PyData) : Prop where
  ex : ∃ vs, E p = some (.lst vs) ∧ DpAll K E vs ds
  each : ∀ d ∈ ds, WshN ns d
theorem WLn.up {E E' : Hp} {p : Addr} {ns : List Str} {ds : List PyData} (h : WLn K E p ns ds) (s : Same E E') : WLn K E' p ns ds := by
  obtain ⟨vs, h1, h2⟩ := h.ex
  exact ⟨⟨vs, s _ _ h1, dpAllSame s h2⟩, h.each⟩
def spWishL (K : PySem.W.Frag) : Sp := fun vs H Q _ => ∃ (st c t : Addr) (ns : List Str) (b : Int) (many : Nat), vs = [.ref st, .ref t, .int many] ∧ Sta H st c b ∧ b + 600 ≤ 1000000 ∧ many ≤ 24 ∧ SqL K (er H st) t (ns.map V.str) ∧ ns.length ≤ 64 ∧ (∀ s ∈ ns, PyData.strOk s = true) ∧
  ∀ (p : Addr) (ds : List PyData) (H' : Hp), Gs st c H H' (b + 600) → WLn K (er H' st) p ns ds → ds.length ≤ many → er H st p = none → Q (.ref p) H'
end
end K5
set_option Elab.async false
set_option linter.all false
set_option maxRecDepth 100000
set_option maxHeartbeats 4000000
namespace K5
open PySem L2
local macro_rules | `(tactic| walk_at "rd1") => `(tactic| first
  | refine ⟨_, _, rfl, rfl, ?_⟩
  | refine ⟨_, _, _, _, rfl, rfl, SqL.of (by assumption), rfl, ?_⟩
  | refine ⟨_, _, _, _, rfl, rfl, (by assumption), rfl, ?_⟩
  | refine .inl ⟨_, rfl, ?_⟩
  | refine ⟨_, rfl, ?_⟩
  | refine ⟨(by unfold CMul; omega), ?_⟩
  | refine ⟨(by unfold CPow; omega), ?_⟩
  | refine ⟨(by (try dsimp only); omega), ?_⟩
  | refine ⟨(by unfold CDiv; omega), ?_⟩
  | fail "rd1")
local macro_rules | `(tactic| walk_at "rd") => `(tactic| repeat' (walk_at "rd1"))
section
variable {P : Program} {w : World} {K : PySem.W.Frag} {mg : Str → Option Value} {base : Heap} {A : Ad}

theorem noTup_lst (xs : List V) : NoTup (.lst xs) := ⟨fun _ z => (nomatch z), fun _ _ z => (nomatch z)⟩
theorem dpAllApp' {H : Hp} : ∀ {vs : List V} {ds : List PyData} {v : V} {d : PyData}, DpAll K H vs ds → Dp K H v d → DpAll K H (vs ++ [v]) (ds ++ [d])
  | _, _, _, _, .nil, b => .cons b .nil
  | _, _, _, _, .cons a r, b => .cons a (dpAllApp' r b)
theorem neNil {H : Hp} {t : Addr} {ns : List Str} {j : Nat} {σ : St} {Q : Bool → Hp → Prop} (hS : SqL K H t (ns.map V.str)) (hok : ∀ s ∈ ns, PyData.strOk s = true) (hj : σ[j]? = some (some (.ref t)))
    (k : ∀ e, H e = none → Q (!ns.isEmpty) (upd H e (.lst []))) : tTest (tOp (rNeD K) (tVar j) (tLst tNil)) σ H Q := by
  refine ⟨_, hj, Nat.zero_le _, fun e he => ⟨.list (ns.map PyData.str), .list [], .lst (sqUp hS (Same.new he)) (dpStrs ns), .lst (SqL.of upd_same) .nil, strs_shaped hok, by decide +kernel, _, rfl, ?_⟩⟩
  rw [eqv_strs_nil]
  exact k e he
/-- how the row of names stands behind the choices of a wish -/
def ExW (K : PySem.W.Frag) (st c t p : Addr) (H : Hp) (ns : List Str) (many : Nat) (k r1 : V) (ds : List PyData) (B : Int) : St → Hp → Prop := fun σ' H' =>
  ∃ (v1 v2 : V) (d1 d2 : PyData) (m : Int), σ' = [some (.ref st), some (.ref t), some (.int (many : Nat)), some (.ref p), some k, some r1, some (.int m), some v1, some v2] ∧ Gs st c H H' B ∧ WLn K (er H' st) p ns ds ∧ Dp K (er H' st) v1 d1 ∧ MomN ns d1 ∧ Dp K (er H' st) v2 d2 ∧ MomN ns d2
theorem seq_ifs_ex {c : TT} {t u r : TS} {D : Ends} {σ : St} {H : Hp} (Ex : St → Hp → Prop) (h : ∀ nx : St → Hp → Prop, (∀ σ H, Ex σ H → nx σ H) → tIfS c t u { D with nx := nx } σ H) (hd : ∀ σ H, Ex σ H → r D σ H) : tSeq (tIfS c t u) r D σ H := h (r D) hd
theorem elif_ok {st c t p : Addr} {H H5 : Hp} {ns : List Str} {many : Nat} {k : V} {r1 r2 B : Int} {ds : List PyData} {v1 v2 : V} {d1 d2 : PyData} {D : Ends} (g : Gs st c H H5 B) (hB : B + 4 ≤ 1000000) (hS : SqL K (er H5 st) t (ns.map V.str)) (hl : ns.length ≤ 64) (hok : ∀ s ∈ ns, PyData.strOk s = true)
    (hm : -100000 < r2 ∧ r2 < 100000) (wl : WLn K (er H5 st) p ns ds) (D1 : Dp K (er H5 st) v1 d1) (M1 : MomN ns d1) (D2 : Dp K (er H5 st) v2 d2) (M2 : MomN ns d2) (hnx : ∀ σ H', ExW K st c t p H ns many k (.int r1) ds (B + 4) σ H' → D.nx σ H') :
    tIfS (tAnd (tTest (tOp rEq (tVar 5) (tC (V.int 2)))) (tTest (tOp (rNeD K) (tVar 1) (tLst tNil)))) (tPar3 7 8 6 (tCons (tC (V.str "clock")) (tCons (tTup (tCons (tC (V.str "done")) (tCons (tCall (spOne K) [] E0 (tCons (tVar 0) (tCons (tVar 1) tNil))) tNil)))
      (tCons (tOp (rI0 fun i j => V.int (i + j)) (tC (V.int 8)) (tOp (rI CMul fun i j => V.int (i * j)) (tC (V.int 2)) (tVar 6))) tNil)))) tNext D
      [some (.ref st), some (.ref t), some (.int (many : Nat)), some (.ref p), some k, some (.int r1), some (.int r2), some v1, some v2] H5 := by
  refine ⟨_, rfl, rfl, _, rfl, ite2 (fun _ => neNil (sqEr hS) hok rfl fun e he => ?_) (fun _ => iteF ?_)⟩
  · have g1 := g.new he (o := .lst [])
    have s1 : Same (er H5 st) (er (upd H5 e (.lst [])) st) := er_mono (Same.new he)
    generalize upd H5 e (.lst []) = H6 at g1 s1 ⊢
    refine ite2 (fun hne => ?_) (fun _ => ?_)
    · have pos : 0 < ns.length := by
        cases ns with
        | nil => cases hne
        | cons _ _ => exact Nat.succ_pos _
      refine ⟨_, rfl, _, rfl, st, c, t, _, _, rfl, g1.sta, by omega, sqUp hS s1, by rw [List.length_map]; exact pos, by rw [List.length_map]; omega, fun j w H7 hw g7 => ?_⟩
      obtain ⟨hj, rfl⟩ := str_at hw
      refine ⟨by show 2 ≤ sizeLine; decide, fun d nd => ?_⟩
      have q7 : SqT K (er (upd H7 d (.tup [.str "done", .str ns[j]])) st) d [.str "done", .str ns[j]] := SqT.of (er_of (g7.sta.ne nd) upd_same)
      have g7 := g7.new nd (o := .tup [.str "done", .str ns[j]])
      refine ⟨_, rfl, _, _, rfl, rfl, .inl ⟨by omega, by omega⟩, _, _, rfl, rfl, _, _, _, rfl, ?_⟩
      have s7 := s1.trans g7.same
      exact hnx _ _ ⟨.str "clock", .ref d, _, _, _, rfl, (g1.trans g7).le (by omega) hB, wl.up s7, .str _, .clock, .tup q7 (.cons (.str _) (.cons (.str ns[j]) .nil)), .edge (.inr rfl) (List.getElem_mem hj)⟩
    · exact hnx _ _ ⟨v1, v2, d1, d2, r2, rfl, g1.le (by omega) hB, wl.up s1, dpSame s1 D1, M1, dpSame s1 D2, M2⟩
  · exact hnx _ _ ⟨v1, v2, d1, d2, r2, rfl, g.le (by omega) hB, wl, D1, M1, D2, M2⟩
theorem wl_push {E : Hp} {p d : Addr} {ns : List Str} {ds : List PyData} {vs : List V} {v1 v2 : V} {d1 d2 : PyData} {x : Int} (hp : E p = some (.lst vs)) (hA : DpAll K E vs ds) (hW : ∀ d ∈ ds, WshN ns d) (hd : E d = none) (D1 : Dp K E v1 d1) (M1 : MomN ns d1) (D2 : Dp K E v2 d2) (M2 : MomN ns d2) :
    WLn K (upd (upd E d (.tup [v1, v2, .int x])) p (.lst (vs ++ [.ref d]))) p ns (ds ++ [.tuple [d1, d2, .int x]]) := by
  have ndp : d ≠ p := (ne_of_none hp hd).symm
  have s1 : Same E (upd E d (.tup [v1, v2, .int x])) := Same.new hd
  have hp1 := s1 _ _ hp
  have hd1 : upd E d (.tup [v1, v2, .int x]) d = some (.tup [v1, v2, .int x]) := upd_same
  generalize upd E d (.tup [v1, v2, .int x]) = E1 at s1 hp1 hd1 ⊢
  have s2 : Same (er E1 p) (upd E1 p (.lst (vs ++ [.ref d]))) := fun b u e => by rw [upd_ne (er_some e).1]; exact (er_some e).2
  have nt := noTup_lst vs
  refine ⟨⟨_, upd_same, ?_⟩, fun z hz => ?_⟩
  · refine dpAllApp' (wshnAll hp1 nt s2 (dpAllSame s1 hA) hW) (.tup (SqT.of (by rw [upd_ne ndp]; exact hd1)) (.cons (momnNoRef hp1 nt (dpSame s1 D1) M1 s2) (.cons (momnNoRef hp1 nt (dpSame s1 D2) M2 s2) (.cons (.int x) .nil))))
  · rcases List.mem_append.mp hz with q | q
    · exact hW z q
    · rw [List.mem_singleton.mp q]; exact .mk M1 M2
theorem ok_wishl (T : Txt K mg A) : FnOk P w K mg base CX0 4 A.a__law_wishes A.d__law_wishes P__law_wishes (spWishL K) := by
  have G__law_take : FnOk P w K mg base CX0 1 A.a__law_take A.d__law_take P__law_take spTake := ok_take T
  have G__law_one : FnOk P w K mg base CX0 2 A.a__law_one A.d__law_one P__law_one (spOne K) := ok_one T
  have G__law_moment : FnOk P w K mg base CX0 3 A.a__law_moment A.d__law_moment P__law_moment (spMomN K) := ok_momn T
  refine T.f__law_wishes.ok sc__law_wishes (fun vs H Q E h => ?_) (fun cdv A' outer s H vs Q E hr h => ?_)
  · obtain ⟨st, c, t, ns, b, many, rfl, _⟩ := h
    rfl
  · obtain ⟨st, c, t, ns, b, many, rfl, S, hb, hm24, hS, hl, hok, k⟩ := h
    refine ⟨_, (pss_cons (ps_set (i := 3) sc__law_wishes.nd rfl (Or.inl rfl) (pe_lst pa_nil))
 (pss_cons (ps_for PassesOwn.never rfl (pi_range1 (by rfl) T.range (pa_cons (pe_call G__law_take (hr.mono (by omega)) (by rfl) T.g__law_take T.f__law_take.kp T.b__law_take .nil pass0 (pa_cons (pv 0) (pa_cons (pe_op op_add (pv 2) pe_int) pa_nil))) pa_nil)) (pg_name (i := 4) sc__law_wishes.nd rfl (Or.inl rfl))
 (pss_cons (ps_par (i := 5) (j := 6) (by rfl) sc__law_wishes.nd rfl rfl (by decide) rfl rfl (pa_cons (pe_call G__law_take (hr.mono (by omega)) (by rfl) T.g__law_take T.f__law_take.kp T.b__law_take .nil pass0 (pa_cons (pv 0) (pa_cons pe_int pa_nil))) (pa_cons (pe_call G__law_take (hr.mono (by omega)) (by rfl) T.g__law_take T.f__law_take.kp T.b__law_take .nil pass0 (pa_cons (pv 0) (pa_cons pe_int pa_nil))) pa_nil)) (by rfl))
 (pss_cons (ps_par (i := 7) (j := 8) (by rfl) sc__law_wishes.nd rfl rfl (by decide) rfl rfl (pa_cons (pe_call G__law_moment (hr.mono (by omega)) (by rfl) T.g__law_moment T.f__law_moment.kp T.b__law_moment .nil pass0 (pa_cons (pv 0) (pa_cons (pv 1) pa_nil))) (pa_cons (pe_call G__law_moment (hr.mono (by omega)) (by rfl) T.g__law_moment T.f__law_moment.kp T.b__law_moment .nil pass0 (pa_cons (pv 0) (pa_cons (pv 1) pa_nil))) pa_nil)) (by rfl))
 (pss_cons (ps_if (PW.pt (pw_and (pt_cmpR op_lt (pv 5) pe_int (nomark _)) (pw_and1 (pt_cmpR (op_neD hr.units) (pv 1) (pe_lst pa_nil) (nomark _)))))
 (pss_one (ps_par (i := 7) (j := 8) (by rfl) sc__law_wishes.nd rfl rfl (by decide) rfl rfl (pa_cons (pe_tup (pa_cons pe_str (pa_cons (pe_call G__law_one (hr.mono (by omega)) (by rfl) T.g__law_one T.f__law_one.kp T.b__law_one .nil pass0 (pa_cons (pv 0) (pa_cons (pv 1) pa_nil))) pa_nil))) (pa_cons (pe_tup (pa_cons pe_str (pa_cons (pe_call G__law_one (hr.mono (by omega)) (by rfl) T.g__law_one T.f__law_one.kp T.b__law_one .nil pass0 (pa_cons (pv 0) (pa_cons (pv 1) pa_nil))) pa_nil))) pa_nil)) (by rfl)))
 (pss_one (ps_if (PW.pt (pw_and (pt_cmpR op_eq (pv 5) pe_int (nomark _)) (pw_and1 (pt_cmpR (op_neD hr.units) (pv 1) (pe_lst pa_nil) (nomark _)))))
 (pss_one (ps_par3 (i := 7) (j := 8) (l := 6) (by rfl) sc__law_wishes.nd rfl rfl rfl (by decide) (by decide) (by decide) rfl rfl rfl (pa_cons pe_str (pa_cons (pe_tup (pa_cons pe_str (pa_cons (pe_call G__law_one (hr.mono (by omega)) (by rfl) T.g__law_one T.f__law_one.kp T.b__law_one .nil pass0 (pa_cons (pv 0) (pa_cons (pv 1) pa_nil))) pa_nil))) (pa_cons (pe_op op_add pe_int (pe_op op_mul pe_int (pv 6))) pa_nil))) (by rfl)))
 pss_nil)))
 (pss_one (ps_expr (pe_bm PySem.F.plainAttrs_list PySem.F.slot_list_append PySem.F.type_list_append mt_append (pv 3) (pa_cons (pe_tup (pa_cons (pv 7) (pa_cons (pv 8) (pa_cons (pe_ifExp (pt_cmpR op_gt (pv 5) pe_int (nomark _)) (pe_op op_sub (pv 6) pe_int) (pv 6)) pa_nil)))) pa_nil))))))))
 (pss_one (ps_ret (pv 3))))), ?_⟩
    refine ⟨Nat.zero_le _, fun p hp => ?_⟩
    have mp := S.ne hp
    have ep := er_none (st := st) hp
    have g0 := (Gs.refl S).new hp (o := .lst [])
    have hp0 : er (upd H p (.lst [])) st p = some (.lst []) := er_of mp upd_same
    refine ⟨_, rfl, _, rfl, _, _, rfl, rfl, st, c, (many : Int) + 1, _, rfl, g0.sta, by omega, by omega, by omega, fun r o hr0 hr1 S1 => ?_⟩
    have g1 := g0.trans (Gs.of_upd S1)
    have hp1 : er (upd (upd H p (.lst [])) st o) st p = some (.lst []) := by rw [er_upd]; exact hp0
    generalize upd (upd H p (.lst [])) st o = H1 at g1 hp1 ⊢
    refine ⟨_, rfl, by omega, by omega, for_range (lo := 0) (n := r.toNat) (fun i σ' H' => ∃ u4 u5 u6 u7 u8 ds, σ' = [some (.ref st), some (.ref t), some (.int (many : Nat)), some (.ref p), u4, u5, u6, u7, u8] ∧ Gs st c H H' (b + 1 + 20 * (i : Int)) ∧ WLn K (er H' st) p ns ds ∧ ds.length = i)
      ⟨_, _, _, _, _, [], rfl, by simpa using g1, ⟨⟨[], hp1, .nil⟩, fun _ h => by cases h⟩, rfl⟩ ?_ ?_⟩
    · rintro i σ' H' hi ⟨u4, u5, u6, u7, u8, ds, rfl, g, wl, hdl⟩
      have hi24 : i < 25 := by omega
      -- sort, most
      refine ⟨_, rfl, st, c, 5, _, rfl, g.sta, by omega, by omega, by omega, fun r1 o1 _ _ S1 => ⟨_, rfl, st, c, 12, _, rfl, S1, by omega, by omega, by omega, fun r2 o2 _ _ S2 => ⟨_, _, rfl, ?_⟩⟩⟩
      have g2 := (g.trans (Gs.of_upd S1)).trans (Gs.of_upd S2)
      have wl2 : WLn K (er (upd (upd H' st o1) st o2) st) p ns ds := by rw [er_upd, er_upd]; exact wl
      generalize upd (upd H' st o1) st o2 = H2 at g2 wl2 ⊢
      have hS2 := sqUp hS g2.same
      -- two moments
      refine ⟨_, rfl, _, rfl, st, c, t, ns, _, rfl, g2.sta, by omega, hS2, hl, hok, fun v1 d1 H3 g3 D1 M1 => ?_⟩
      have wl3 := wl2.up g3.same
      have g3 := g2.trans g3
      refine ⟨_, rfl, _, rfl, st, c, t, ns, _, rfl, g3.sta, by omega, sqUp hS g3.same, hl, hok, fun v2 d2 H4 g4 D2 M2 => ⟨_, _, rfl, ?_⟩⟩
      have wl4 := wl3.up g4.same
      have D1 := dpSame g4.same D1
      have g4 := g3.trans g4
      have hS4 := sqUp hS g4.same
      with_reducible refine seq_ifs_ex (ExW K st c t p H ns many (.int (0 + (i : Int))) (.int r1) ds (b + 1 + 20 * (i : Int) + 16)) (fun nx hnx => ?_) ?_
      · have elif : ∀ H5, Gs st c H H5 (b + 1 + 20 * (i : Int) + 8) → Same (er H4 st) (er H5 st) → _ := fun H5 g5 s5 =>
          elif_ok (D := { nx := nx, rt := Q }) (k := .int (0 + (i : Int))) (r1 := r1) (r2 := r2) (many := many) g5 (by omega) (sqUp hS4 s5) hl hok ⟨by omega, by omega⟩ (wl4.up s5) (dpSame s5 D1) M1 (dpSame s5 D2) M2 (fun σ' H' z => hnx σ' H' (by
            obtain ⟨a1, a2, a3, a4, a5, a6, a7, a8⟩ := z
            exact ⟨a1, a2, a3, a4, a5, a6, a7.le (by omega) (by omega), a8⟩))
        have g4' := g4.le (b' := b + 1 + 20 * (i : Int) + 8) (by omega) (by omega)
        refine ⟨_, rfl, _, _, rfl, rfl, _, rfl, ite2 (fun _ => neNil (sqEr hS4) hok rfl fun e he => ite2 (fun hne => ?_) (fun _ => ?_)) (fun _ => iteF ?_)⟩
        · have g5 := g4.new he (o := .lst [])
          have s5 : Same (er H4 st) (er (upd H4 e (.lst [])) st) := er_mono (Same.new he)
          generalize upd H4 e (.lst []) = H5 at g5 s5 ⊢
          have pos : 0 < ns.length := by
            cases ns with
            | nil => cases hne
            | cons _ _ => exact Nat.succ_pos _
          refine ⟨_, rfl, _, rfl, st, c, t, _, _, rfl, g5.sta, by omega, sqUp hS4 s5, by rw [List.length_map]; exact pos, by rw [List.length_map]; omega, fun j w H6 hw g6 => ?_⟩
          obtain ⟨hj, rfl⟩ := str_at hw
          refine ⟨by show 2 ≤ sizeLine; decide, fun da nda => ?_⟩
          have q6 : SqT K (er (upd H6 da (.tup [.str "done", .str ns[j]])) st) da [.str "done", .str ns[j]] := SqT.of (er_of (g6.sta.ne nda) upd_same)
          have g6 := g6.new nda (o := .tup [.str "done", .str ns[j]])
          generalize upd H6 da (.tup [.str "done", .str ns[j]]) = H6' at q6 g6 ⊢
          refine ⟨_, rfl, _, rfl, st, c, t, _, _, rfl, (g5.trans g6).sta, by omega, sqUp (sqUp hS4 s5) g6.same, by rw [List.length_map]; exact pos, by rw [List.length_map]; omega, fun j2 w H7 hw g7 => ?_⟩
          obtain ⟨hj2, rfl⟩ := str_at hw
          refine ⟨by show 2 ≤ sizeLine; decide, fun db ndb => ⟨_, _, rfl, ?_⟩⟩
          have q7 : SqT K (er (upd H7 db (.tup [.str "done", .str ns[j2]])) st) db [.str "done", .str ns[j2]] := SqT.of (er_of (g7.sta.ne ndb) upd_same)
          have g7 := g7.new ndb (o := .tup [.str "done", .str ns[j2]])
          have s7 := (s5.trans g6.same).trans g7.same
          exact hnx _ _ ⟨.ref da, .ref db, _, _, _, rfl, ((g5.trans g6).trans g7).le (by omega) (by omega), wl4.up s7, .tup (stUp q6 g7.same) (.cons (.str _) (.cons (.str ns[j]) .nil)), .edge (.inr rfl) (List.getElem_mem hj), .tup q7 (.cons (.str _) (.cons (.str ns[j2]) .nil)), .edge (.inr rfl) (List.getElem_mem hj2)⟩
        · exact elif _ (g4'.new he) (er_mono (Same.new he))
        · exact elif _ g4' (Same.refl _)
      · rintro σ' H5 ⟨v1, v2, d1, d2, m, rfl, g5, wl5, D1, M1, D2, M2⟩
        obtain ⟨vs, hvs, hA⟩ := wl5.ex
        have hvl := dpLen hA
        have hpv := (er_same _ _) _ _ hvs
        refine ⟨_, rfl, .inl ⟨rfl, _, SqL.of hpv⟩, _, rfl, _, rfl, _, rfl, _, _, rfl, rfl, _, rfl, ite2 (fun _ => ⟨_, rfl, _, _, rfl, rfl, ?_⟩) (fun _ => ⟨_, rfl, ?_⟩)⟩
        all_goals
          refine ⟨by show 3 ≤ sizeLine; decide, fun d nd => ?_⟩
          have md := g5.sta.ne nd
          have nd' : d ≠ p := (ne_of_none hpv nd).symm
          refine ⟨p, vs, _, rfl, rfl, Same.new nd _ _ hpv, Nat.lt_of_le_of_lt (show vs.length ≤ 25 by omega) (by decide), ?_⟩
          refine' ⟨_, _, _, _, _, _, rfl, Gs.le ((g5.new nd).set S.hc ep mp) (by omega) (by omega), ?a, ?b⟩
          case a =>
            rw [er_updp mp, er_updp md]
            exact wl_push hvs hA wl5.each (er_none nd) D1 M1 D2 M2
          case b => rw [List.length_append, List.length_singleton, hdl]
    · rintro σ' H' ⟨u4, u5, u6, u7, u8, ds, rfl, g, wl, hdl⟩
      exact ⟨_, rfl, k p ds H' (g.le (by omega) (by omega)) wl (by omega) ep⟩
end
end K5
set_option Elab.async false
set_option linter.all false
set_option maxRecDepth 100000
set_option maxHeartbeats 4000000
namespace K5
open PySem L2
local macro_rules | `(tactic| walk_at "rd1") => `(tactic| first
  | refine ⟨_, _, rfl, rfl, ?_⟩
  | refine ⟨_, _, _, _, rfl, rfl, SqL.of (by assumption), rfl, ?_⟩
  | refine ⟨_, _, _, _, rfl, rfl, (by assumption), rfl, ?_⟩
  | refine .inl ⟨_, rfl, ?_⟩
  | refine ⟨_, rfl, ?_⟩
  | refine ⟨(by unfold CMul; omega), ?_⟩
  | refine ⟨(by unfold CPow; omega), ?_⟩
  | refine ⟨(by (try dsimp only); omega), ?_⟩
  | refine ⟨(by unfold CDiv; omega), ?_⟩
  | fail "rd1")
local macro_rules | `(tactic| walk_at "rd") => `(tactic| repeat' (walk_at "rd1"))
section
variable {P : Program} {w : World} {K : PySem.W.Frag} {mg : Str → Option Value} {base : Heap} {A : Ad}

def letters : Str := "abcdefghijklmnopqrstuvwxyz"
structure Nm (s : Str) : Prop where
  noclock : s ≠ "clock"
  pos : 1 ≤ s.length
  most : s.length ≤ 8
  low : ∀ c ∈ s.cps.toList, c ∈ letters.cps.toList
theorem nm_dec {xs : List Str} (h : (xs.all fun s => (decide (s ≠ "clock") && (decide (1 ≤ s.length) && (decide (s.length ≤ 8) && s.cps.toList.all fun c => decide (c ∈ letters.cps.toList))))) = true) : ∀ s ∈ xs, Nm s := by
  intro s hs
  have := List.all_eq_true.mp h s hs
  simp only [Bool.and_eq_true, decide_eq_true_eq, List.all_eq_true] at this
  exact ⟨this.1, this.2.1, this.2.2.1, this.2.2.2⟩
theorem pool_nm : ∀ s ∈ pool, Nm s := nm_dec (by decide +kernel)
theorem qq_nm : Nm "qq" := nm_dec (xs := ["qq"]) (by decide +kernel) _ (List.mem_singleton.mpr rfl)
def spIsName : Sp := fun vs H Q _ => ∃ (s : Str), vs = [.str s] ∧ Nm s ∧ ∀ H', Same H H' → Q (.bl true) H'
theorem ok_isname (T : Txt K mg A) : FnOk P w K mg base CX0 1 A.a_is_name A.d_is_name P_is_name spIsName := by
  refine T.f_is_name.ok sc_is_name (fun vs H Q E h => ?_) (fun cdv A' outer s H vs Q E hr h => ?_)
  · obtain ⟨s, rfl, _⟩ := h
    rfl
  · obtain ⟨z, rfl, N, k⟩ := h
    refine ⟨_, (pss_cons (ps_if (PW.pt (pw_or (pt_not (pt_val (pe_callB call_isi (by rfl) T.isinstance (by decide +kernel) (pa_cons (pv 0) (pa_cons (pe_bltn (v := .ty "str") (u := .type "str") (by rfl) T.str (by decide +kernel) rfl) pa_nil))))) (pw_or1 (pt_cmpR op_eq (pv 0) (pe_glob (v := .str "clock") (by rfl) T.g_CLOCK.choose_spec ⟨_, rfl⟩) (nomark _)))))
 (pss_one (ps_ret pe_bl))
 pss_nil)
 (pss_one (ps_ret (pe_and (pe_chain op_le op_le pe_int (pe_callB call_len_str (by rfl) T.len PySem.boot_len (pa_cons (pv 0) pa_nil)) (pe_glob (v := .int 8) (by rfl) T.g_LONGEST_NAME.choose_spec ⟨_, rfl⟩)) (pe_one (pe_callB (cr_all rfl) (by rfl) T.all (by decide +kernel) (pa_cons (pe_lc (own := [("sign", 1)]) (g := gName 1) (by rfl) sc_is_name.nd (pi_str (pv 0)) (blkOk_by (N := N_is_name) (sc := defScope s_is_name) (by decide +kernel)) (fun _ _ _ _ _ => pg_name (i := 1) sc_is_name.nd rfl (Or.inl rfl)) (fun _ _ _ _ _ => pts_nil) (fun _ _ _ _ _ => (pe_cmpR op_in_sign (pv 1) (pe_glob (v := .str "abcdefghijklmnopqrstuvwxyz") (by rfl) T.g_LETTERS.choose_spec ⟨_, rfl⟩) (by rfl)))) pa_nil))))))), ?_⟩
    refine ⟨_, rfl, _, _, .type "str", _, true, rfl, .ty _, .base (.str _), kit_ty (by decide +kernel), _, rfl, iteF ?_⟩
    refine ⟨_, rfl, rfl, _, rfl, ite2 (fun q => absurd (of_decide_eq_true q) (fun q => N.noclock (V.str.inj q))) (fun _ => ?_)⟩
    have l8 := N.most
    have l1 := N.pos
    have hsz : z.length ≤ sizeLine := Nat.le_trans l8 (by decide)
    refine ⟨_, rfl, z, rfl, hsz, _, _, rfl, rfl, _, rfl, ite2 (fun _ => ?_) (fun q => (q (decide_eq_true (by omega))).elim)⟩
    refine ⟨_, _, rfl, rfl, _, rfl, ite2 (fun _ => ?_) (fun q => (q (decide_eq_true (by omega))).elim)⟩
    refine ⟨_, rfl, z, rfl, fun D hD => lc_it walk_str (fun i H' => Same H H' ∧ H' D = some (.lst ((List.replicate i true).map V.bl))) ⟨Same.new hD, upd_same⟩ (fun _ _ _ _ => trivial) ?_ (fun H' q => ?_)⟩
    · rintro i x H' H'' hi ⟨s1, hD'⟩ ⟨rfl, c, hc, rfl⟩
      have hm : c ∈ z.cps.toList := by
        have := Array.mem_of_getElem? hc
        exact Array.mem_toList_iff.mpr this
      have e1 : decide (c ∈ letters.cps.toList) = true := decide_eq_true (N.low c hm)
      refine ⟨rfl, _, rfl, c, letters, rfl, rfl, _, hD', by rw [List.length_map, List.length_replicate]; exact Nat.lt_of_lt_of_le hi hsz, ?_, ?_⟩
      · exact fun b u e => by rw [upd_ne (ne_of_none e hD)]; exact s1 _ _ e
      · rw [upd_same, e1, List.replicate_succ', List.map_append]; rfl
    · refine ⟨D, _, rfl, SqL.of q.2, ?_⟩
      rw [all_true]
      exact k _ q.1
theorem rdUp {H H' : Hp} {d : Addr} {u : HO} (h : Rd H d u) (s : Same H H') : Rd H' d u := h.elim (fun q => .inl (s _ _ q)) (fun ⟨o, q⟩ => .inr ⟨o, s _ _ q⟩)
/-- is_dish of a text, or of what is none -/
def spIsDish (K : PySem.W.Frag) : Sp := fun vs H Q _ => ∃ (x : V) (dd : Addr) (kvs : List (Key × V)), vs = [x, .ref dd] ∧ Rd H dd (.dK kvs) ∧
  ((∃ s, x = .str s ∧ Q (.bl (valV kvs (.inr s)).isSome) H) ∨ ∃ t, TyX K H x (.type t) ∧ kitB t "str" = some false ∧ Q (.bl false) H)
theorem ok_isdish (T : Txt K mg A) : FnOk P w K mg base CX0 1 A.a_is_dish A.d_is_dish P_is_dish (spIsDish K) := by
  refine T.f_is_dish.ok sc_is_dish (fun vs H Q E h => ?_) (fun cdv A' outer s H vs Q E hr h => ?_)
  · obtain ⟨s, dd, kvs, rfl, _⟩ := h
    rfl
  · obtain ⟨x, dd, kvs, rfl, hd, h⟩ := h
    refine ⟨_, (pss_one (ps_ret (pe_and (pe_callB call_isi (by rfl) T.isinstance (by decide +kernel) (pa_cons (pv 0) (pa_cons (pe_bltn (v := .ty "str") (u := .type "str") (by rfl) T.str (by decide +kernel) rfl) pa_nil))) (pe_one (pe_cmp (pc_din (hu_of hr) (pv 0) (pv 1)) rfl))))), ?_⟩
    rcases h with ⟨z, rfl, k⟩ | ⟨t, ht, hk, k⟩
    · exact ⟨_, rfl, _, _, .type "str", _, true, rfl, .ty _, .base (.str _), kit_ty (by decide +kernel), _, rfl, iteT ⟨_, rfl, _, rfl, dd, _, rfl, .inl ⟨kvs, .inr z, hd, rfl, rfl⟩, k⟩⟩
    · exact ⟨_, rfl, _, _, .type t, _, false, rfl, .ty _, ht, kit_ty hk, _, rfl, iteF k⟩
theorem valV_at : ∀ {kvs : List (Key × V)} {i : Nat} {k : Key} {v : V}, (kvs.map (·.1)).Nodup → kvs[i]? = some (k, v) → valV kvs k = some v
  | p :: r, 0, k, v, _, h => by
    have e : p = (k, v) := Option.some.inj h
    rw [valV_pos (by rw [e]), e]
  | p :: r, i + 1, k, v, hN, h => by
    have hr : r[i]? = some (k, v) := h
    rw [List.map_cons, List.nodup_cons] at hN
    rw [valV_neg (fun e => hN.1 (by rw [e]; exact List.mem_map.mpr ⟨(k, v), List.mem_of_getElem? hr, rfl⟩))]
    exact valV_at hN.2 hr
  | [], i, k, v, _, h => by simp at h
theorem fillD {J : It} {n : Nat} {G : Hp → Prop} {Y : Nat → Hp → V → Hp → Prop} (wk : Walk J n G Y) {g : TG} {tt : TT} {tk tv : TE} {vs : List Nat} {σ : St} {H1 : Hp} {D : Addr} {Qd : Hp → Prop} (I : Nat → Hp → Prop)
    (i0 : I 0 (upd H1 D (.dK []))) (iG : ∀ i H, i ≤ n → I i H → G H)
    (step : ∀ i x H H', i < n → I i H → Y i H x H' → g x (wipe σ vs) H' fun σ2 H2 => wipe σ2 vs = wipe σ vs ∧ tt σ2 H2 fun b H3 =>
      if b = true then tk σ2 H3 fun y H4 => tv σ2 H4 fun z H5 => ∃ kvs k, y = kV k ∧ H5 D = some (.dK kvs) ∧ kvs.length < sizeLine ∧ I (i + 1) (upd H5 D (.dK (putK kvs k z))) else I (i + 1) H3)
    (last : ∀ H, I n H → Qd H) :
    ∃ W : Nat → Nat → Hp → Prop, (∃ m, W 0 m (upd H1 D (.dK []))) ∧ ∀ i m H, W i m H →
      (J.stop i H ∧ Qd H) ∨ (J.go i H ∧ ∃ Nx : Hp → Prop, (∀ H', Nx H' → ∃ m', m' < m ∧ W (i + 1) m' H') ∧ ∀ x H', J.yld i H x H' → g x (wipe σ vs) H' fun σ2 H2 => wipe σ2 vs = wipe σ vs ∧ tt σ2 H2 fun b H3 =>
        if b = true then tk σ2 H3 fun y H4 => tv σ2 H4 fun z H5 => ∃ kvs k, y = kV k ∧ H5 D = some (.dK kvs) ∧ kvs.length < sizeLine ∧ Nx (upd H5 D (.dK (putK kvs k z))) else Nx H3) := by
  refine ⟨fun i m H => m + i = n ∧ I i H, ⟨n, rfl, i0⟩, fun i m H ⟨e, h⟩ => ?_⟩
  have g' := iG i H (by omega) h
  rcases Nat.lt_or_ge i n with lt | ge
  · exact .inr ⟨wk.goes i H lt g', I (i + 1), fun H' h' => ⟨m - 1, by omega, by omega, h'⟩, fun x H' y => step i x H H' lt h (wk.yields i H x H' lt g' y)⟩
  · obtain rfl : i = n := by omega
    exact .inl ⟨wk.stops H g', last H h⟩
def isI : PyData → Bool | .int _ => true | _ => false
def isL : PyData → Bool | .list _ => true | .tuple _ => true | _ => false
def spIsInt (K : PySem.W.Frag) : Sp := fun vs H Q _ => ∃ (x : V) (d : PyData), vs = [x] ∧ Dp K H x d ∧ Q (.bl (isI d)) H
def spIsList (K : PySem.W.Frag) : Sp := fun vs H Q _ => ∃ (x : V) (d : PyData), vs = [x] ∧ Dp K H x d ∧ ∀ H', Same H H' → Q (.bl (isL d)) H'
theorem ok_isint (T : Txt K mg A) : FnOk P w K mg base CX0 1 A.a_is_integer A.d_is_integer P_is_integer (spIsInt K) := by
  refine T.f_is_integer.ok sc_is_integer (fun vs H Q E h => ?_) (fun cdv A' outer s H vs Q E hr h => ?_)
  · obtain ⟨x, d, rfl, _⟩ := h
    rfl
  · obtain ⟨x, d, rfl, hx, k⟩ := h
    refine ⟨_, (pss_one (ps_ret (pe_and (pe_callB call_isi (by rfl) T.isinstance (by decide +kernel) (pa_cons (pv 0) (pa_cons (pe_bltn (v := .ty "int") (u := .type "int") (by rfl) T.int (by decide +kernel) rfl) pa_nil))) (pe_one (pe_not (pe_callB call_isi (by rfl) T.isinstance (by decide +kernel) (pa_cons (pv 0) (pa_cons (pe_bltn (v := .ty "bool") (u := .type "bool") (by rfl) T.bool (by decide +kernel) rfl) pa_nil)))))))), ?_⟩
    cases hx with
    | non => exact ⟨_, rfl, _, _, .type "NoneType", _, false, rfl, .ty _, .base .non, kit_ty (by decide +kernel), _, rfl, iteF k⟩
    | str z => exact ⟨_, rfl, _, _, .type "str", _, false, rfl, .ty _, .base (.str _), kit_ty (by decide +kernel), _, rfl, iteF k⟩
    | int i => exact ⟨_, rfl, _, _, .type "int", _, true, rfl, .ty _, .base (.int _), kit_ty (by decide +kernel), _, rfl, iteT ⟨_, rfl, _, _, .type "int", _, false, rfl, .ty _, .base (.int _), kit_ty (by decide +kernel), _, rfl, k⟩⟩
    | bl b => exact ⟨_, rfl, _, _, .type "bool", _, true, rfl, .ty _, .base (.bl _), kit_ty (by decide +kernel), _, rfl, iteT ⟨_, rfl, _, _, .type "bool", _, true, rfl, .ty _, .base (.bl _), kit_ty (by decide +kernel), _, rfl, k⟩⟩
    | lst h _ => exact ⟨_, rfl, _, _, .type "list", _, false, rfl, .ty _, tyL h, kit_ty (by decide +kernel), _, rfl, iteF k⟩
    | tup h _ => exact ⟨_, rfl, _, _, .type "tuple", _, false, rfl, .ty _, tyT h, kit_ty (by decide +kernel), _, rfl, iteF k⟩
theorem ok_islist (T : Txt K mg A) : FnOk P w K mg base CX0 1 A.a_is_list A.d_is_list P_is_list (spIsList K) := by
  refine T.f_is_list.ok sc_is_list (fun vs H Q E h => ?_) (fun cdv A' outer s H vs Q E hr h => ?_)
  · obtain ⟨x, d, rfl, _⟩ := h
    rfl
  · obtain ⟨x, d, rfl, hx, k⟩ := h
    refine ⟨_, (pss_one (ps_ret (pe_callB call_isiT (by rfl) T.isinstance (by decide +kernel) (pa_cons (pv 0) (pa_cons (pe_tup (pa_cons (pe_bltn (v := .ty "list") (u := .type "list") (by rfl) T.list (by decide +kernel) rfl) (pa_cons (pe_bltn (v := .ty "tuple") (u := .type "tuple") (by rfl) T.tuple (by decide +kernel) rfl) pa_nil))) pa_nil))))), ?_⟩
    refine ⟨_, rfl, by show 2 ≤ sizeLine; decide, fun p hp => ?_⟩
    have s1 : Same H (upd H p (.tup [.ty "list", .ty "tuple"])) := Same.new hp
    have k := k _ s1
    cases dpSame s1 hx with
    | non => exact ⟨_, p, _, _, _, false, rfl, upd_same, .cons (.ty _) (.cons (.ty _) .nil), .base .non, kit2 (a := "NoneType") (b := "list") (c := "tuple") (r := false) (s := false) (by decide +kernel) (by decide +kernel), k⟩
    | str z => exact ⟨_, p, _, _, _, false, rfl, upd_same, .cons (.ty _) (.cons (.ty _) .nil), .base (.str _), kit2 (a := "str") (b := "list") (c := "tuple") (r := false) (s := false) (by decide +kernel) (by decide +kernel), k⟩
    | int z => exact ⟨_, p, _, _, _, false, rfl, upd_same, .cons (.ty _) (.cons (.ty _) .nil), .base (.int _), kit2 (a := "int") (b := "list") (c := "tuple") (r := false) (s := false) (by decide +kernel) (by decide +kernel), k⟩
    | bl z => exact ⟨_, p, _, _, _, false, rfl, upd_same, .cons (.ty _) (.cons (.ty _) .nil), .base (.bl _), kit2 (a := "bool") (b := "list") (c := "tuple") (r := false) (s := false) (by decide +kernel) (by decide +kernel), k⟩
    | lst h _ => exact ⟨_, p, _, _, _, true, rfl, upd_same, .cons (.ty _) (.cons (.ty _) .nil), tyL h, kit2 (a := "list") (b := "list") (c := "tuple") (r := true) (s := false) (by decide +kernel) (by decide +kernel), k⟩
    | tup h _ => exact ⟨_, p, _, _, _, true, rfl, upd_same, .cons (.ty _) (.cons (.ty _) .nil), tyT h, kit2 (a := "tuple") (b := "list") (c := "tuple") (r := false) (s := true) (by decide +kernel) (by decide +kernel), k⟩
end
end K5
set_option Elab.async false
set_option linter.all false
set_option maxRecDepth 100000
set_option maxHeartbeats 4000000
namespace K5
open PySem L2
local macro_rules | `(tactic| walk_at "rd1") => `(tactic| first
  | refine ⟨_, _, rfl, rfl, ?_⟩
  | refine ⟨_, _, _, _, rfl, rfl, SqL.of (by assumption), rfl, ?_⟩
  | refine ⟨_, _, _, _, rfl, rfl, (by assumption), rfl, ?_⟩
  | refine .inl ⟨_, rfl, ?_⟩
  | refine ⟨_, rfl, ?_⟩
  | refine ⟨(by unfold CMul; omega), ?_⟩
  | refine ⟨(by unfold CPow; omega), ?_⟩
  | refine ⟨(by (try dsimp only); omega), ?_⟩
  | refine ⟨(by unfold CDiv; omega), ?_⟩
  | fail "rd1")
local macro_rules | `(tactic| walk_at "rd") => `(tactic| repeat' (walk_at "rd1"))
section
variable {P : Program} {w : World} {K : PySem.W.Frag} {mg : Str → Option Value} {base : Heap} {A : Ad}

/-! ### data with lists for tuples -/
mutual
def strip : PyData → PyData
  | .list xs => .tuple (stripAll xs)
  | .tuple xs => .tuple (stripAll xs)
  | d => d
def stripAll : List PyData → List PyData
  | [] => []
  | d :: ds => strip d :: stripAll ds
end
def SqX (K : PySem.W.Frag) (H : Hp) (a : Addr) (xs : List V) : Prop := SqL K H a xs ∨ SqT K H a xs
theorem sxUp {H H' : Hp} {a : Addr} {xs : List V} (h : SqX K H a xs) (s : Same H H') : SqX K H' a xs := h.elim (fun q => .inl (sqUp q s)) (fun q => .inr (stUp q s))
theorem stripAll_map : ∀ ds : List PyData, stripAll ds = ds.map strip
  | [] => rfl
  | d :: ds => by rw [stripAll, stripAll_map ds]; rfl
theorem strip_non : strip .none = .none := by simp [strip]
theorem strip_bl (b : Bool) : strip (.bool b) = .bool b := by simp [strip]
theorem strip_int (i : Int) : strip (.int i) = .int i := by simp [strip]
theorem strip_str (s : Str) : strip (.str s) = .str s := by simp [strip]
theorem dp_atom {H : Hp} {x : V} {d : PyData} (h : Dp K H x d) : (∀ s, strip d = .str s → x = .str s ∧ d = .str s) ∧ ∀ i, strip d = .int i → x = .int i ∧ d = .int i := by
  cases h <;> (constructor <;> intro z e <;> first | (simp only [strip_non, strip_bl, strip_int, strip_str] at e; cases e; first | exact ⟨rfl, rfl⟩ | done) | (rw [strip] at e; cases e))
theorem dp_seq {H : Hp} {x : V} {d : PyData} {es : List PyData} (h : Dp K H x d) (e : strip d = .tuple es) : ∃ a xs ds, x = .ref a ∧ SqX K H a xs ∧ DpAll K H xs ds ∧ stripAll ds = es ∧ isL d = true ∧ (d = .list ds ∨ d = .tuple ds) := by
  cases h with
  | lst hL hA =>
    rw [strip] at e
    exact ⟨_, _, _, rfl, .inl hL, hA, PyData.tuple.inj e, rfl, .inl rfl⟩
  | tup hL hA =>
    rw [strip] at e
    exact ⟨_, _, _, rfl, .inr hL, hA, PyData.tuple.inj e, rfl, .inr rfl⟩
  | _ => simp only [strip_non, strip_bl, strip_int, strip_str] at e; cases e
theorem dpAll_one {H : Hp} {xs : List V} {ds : List PyData} {p : PyData} {r : List PyData} (h : DpAll K H xs ds) (e : stripAll ds = p :: r) : ∃ u xr d dr, xs = u :: xr ∧ ds = d :: dr ∧ Dp K H u d ∧ strip d = p ∧ DpAll K H xr dr ∧ stripAll dr = r := by
  cases h with
  | nil => rw [stripAll] at e; cases e
  | cons a b =>
    rw [stripAll] at e
    injection e with e1 e2
    exact ⟨_, _, _, _, rfl, rfl, a, e1, b, e2⟩
theorem dpAll_nil {H : Hp} {xs : List V} {ds : List PyData} (h : DpAll K H xs ds) (e : stripAll ds = []) : xs = [] ∧ ds = [] := by
  cases h with
  | nil => exact ⟨rfl, rfl⟩
  | cons a b => rw [stripAll] at e; cases e
theorem dp2 {H : Hp} {x : V} {d p q : PyData} (h : Dp K H x d) (e : strip d = .tuple [p, q]) : ∃ a u v d1 d2, x = .ref a ∧ SqX K H a [u, v] ∧ Dp K H u d1 ∧ Dp K H v d2 ∧ strip d1 = p ∧ strip d2 = q ∧ isL d = true ∧ (d = .list [d1, d2] ∨ d = .tuple [d1, d2]) := by
  obtain ⟨a, xs, ds, rfl, hq, hA, e1, hl, hd⟩ := dp_seq h e
  obtain ⟨u, xr, d1, dr, rfl, rfl, h1, e2, hA, e1⟩ := dpAll_one hA e1
  obtain ⟨v, xr, d2, dr, rfl, rfl, h2, e3, hA, e1⟩ := dpAll_one hA e1
  obtain ⟨rfl, rfl⟩ := dpAll_nil hA e1
  exact ⟨a, u, v, d1, d2, rfl, hq, h1, h2, e2, e3, hl, hd⟩
theorem dp3 {H : Hp} {x : V} {d p q r : PyData} (h : Dp K H x d) (e : strip d = .tuple [p, q, r]) : ∃ a u v w d1 d2 d3, x = .ref a ∧ SqX K H a [u, v, w] ∧ Dp K H u d1 ∧ Dp K H v d2 ∧ Dp K H w d3 ∧ strip d1 = p ∧ strip d2 = q ∧ strip d3 = r ∧ isL d = true := by
  obtain ⟨a, xs, ds, rfl, hq, hA, e1, hl, hd⟩ := dp_seq h e
  obtain ⟨u, xr, d1, dr, rfl, rfl, h1, e2, hA, e1⟩ := dpAll_one hA e1
  obtain ⟨v, xr, d2, dr, rfl, rfl, h2, e3, hA, e1⟩ := dpAll_one hA e1
  obtain ⟨w, xr, d3, dr, rfl, rfl, h3, e4, hA, e1⟩ := dpAll_one hA e1
  obtain ⟨rfl, rfl⟩ := dpAll_nil hA e1
  exact ⟨a, u, v, w, d1, d2, d3, rfl, hq, h1, h2, h3, e2, e3, e4, hl⟩
theorem dpAll_strs {H : Hp} : ∀ {ss : List Str} {xs : List V} {ds : List PyData}, DpAll K H xs ds → stripAll ds = ss.map PyData.str → xs = ss.map V.str
  | [], _, _, h, e => (dpAll_nil h e).1
  | s :: ss, _, _, h, e => by
    obtain ⟨u, xr, d1, dr, rfl, rfl, h1, e2, hA, e1⟩ := dpAll_one h e
    rw [dpAll_strs hA e1, ((dp_atom h1).1 _ e2).1]; rfl
/-! ### rules' readings for either -/
theorem seq_or {H0 H : Hp} {t : Addr} {xs : List V} {j : Nat} {σ : St} {R : It → Hp → Prop} (h : SqX K H0 t xs) (s0 : Same H0 H) (hj : σ[j]? = some (some (.ref t))) (hR : ∀ J G, Walk J xs.length G (YAt xs) → (∀ H', Same H0 H' → G H') → R J H) :
    iList K (tVar j) σ H R ∨ iTup K (tVar j) σ H R :=
  h.elim (fun q => .inl ⟨_, hj, t, rfl, ⟨_, sqUp q s0⟩, hR _ _ walk_list fun H' s => sqUp q s⟩) (fun q => .inr ⟨_, hj, t, rfl, ⟨_, stUp q s0⟩, hR _ _ walk_tup fun H' s => stUp q s⟩)
theorem enum_or {H0 H : Hp} {t : Addr} {xs : List V} {j : Nat} {σ : St} {R : It → Hp → Prop} (h : SqX K H0 t xs) (s0 : Same H0 H) (hj : σ[j]? = some (some (.ref t))) (hR : ∀ J G, Walk J xs.length G (YPair (fun i => some (.int (i : Nat))) (fun i => xs[i]?)) → (∀ H', Same H0 H' → G H') → R J H) :
    iEnum K (tCons (tVar j) tNil) σ H R ∨ EnT.iEnumT K (tCons (tVar j) tNil) σ H R :=
  h.elim (fun q => .inl ⟨_, hj, t, _, rfl, sqUp q s0, hR _ _ walk_enum fun H' s => sqUp q s⟩) (fun q => .inr ⟨_, hj, t, _, rfl, stUp q s0, hR _ _ EnT.walk_enumT fun H' s => stUp q s⟩)

theorem lt_of {H : Hp} {p : Addr} {xs : List V} {i : Int} {v : V} {Q : VK} (h : SqX K H p xs) (e : atI xs i = some v) (q : Q v H) : Own.rIxLT K (.ref p) (.int i) H Q :=
  h.elim (fun z => .inl ⟨p, xs, i, v, rfl, rfl, z, e, q⟩) (fun z => .inr ⟨p, xs, i, v, rfl, rfl, z, e, q⟩)
theorem un2 {H : Hp} {a : Addr} {x y : V} {σ : St} {i j : Nat} {Q : St → Hp → Prop} (h : SqX K H a [x, y]) (q : Q ((σ.set i (some x)).set j (some y)) H) : gLst K 2 (gCons (gName i) (gCons (gName j) gNil)) (.ref a) σ H Q ∨ gTup K 2 (gCons (gName i) (gCons (gName j) gNil)) (.ref a) σ H Q :=
  h.elim (fun z => .inl ⟨a, _, rfl, z, rfl, _, _, rfl, _, _, rfl, rfl, q⟩) (fun z => .inr ⟨a, _, rfl, z, rfl, _, _, rfl, _, _, rfl, rfl, q⟩)
theorem un3 {H : Hp} {a : Addr} {x y w : V} {σ : St} {i j l : Nat} {Q : St → Hp → Prop} (h : SqX K H a [x, y, w]) (q : Q (((σ.set i (some x)).set j (some y)).set l (some w)) H) : gLst K 3 (gCons (gName i) (gCons (gName j) (gCons (gName l) gNil))) (.ref a) σ H Q ∨ gTup K 3 (gCons (gName i) (gCons (gName j) (gCons (gName l) gNil))) (.ref a) σ H Q :=
  h.elim (fun z => .inl ⟨a, _, rfl, z, rfl, _, _, rfl, _, _, rfl, _, _, rfl, rfl, q⟩) (fun z => .inr ⟨a, _, rfl, z, rfl, _, _, rfl, _, _, rfl, _, _, rfl, rfl, q⟩)
/-! ### what may stand in a meal -/
inductive Mom (kvs : List (Key × V)) : PyData → Prop
  | clock : Mom kvs (.str "clock")
  | edge {e n : Str} (he : e = "start" ∨ e = "done") (hn : (valV kvs (.inr n)).isSome = true) (ok : PyData.strOk n = true) : Mom kvs (.tuple [.str e, .str n])
inductive Wsh (kvs : List (Key × V)) : PyData → Prop
  | mk {a b : PyData} {m : Int} (ha : Mom kvs a) (hb : Mom kvs b) : Wsh kvs (.tuple [a, b, .int m])
def Stn (kvs : List (Key × V)) (d : PyData) : Prop := ∃ ss : List Str, d = .tuple (ss.map PyData.str) ∧ ss.Nodup ∧ 2 ≤ ss.length ∧ ss.length ≤ 64 ∧ ∀ s ∈ ss, (valV kvs (.inr s)).isSome = true
def spBounds (K : PySem.W.Frag) : Sp := fun vs H Q _ => ∃ (a : Addr) (l m : Int), vs = [.ref a] ∧ SqX K H a [.int l, .int m] ∧ 1 ≤ l ∧ l ≤ m ∧ ∀ H', Same H H' → Q (.bl true) H'
theorem ok_bounds (T : Txt K mg A) : FnOk P w K mg base CX0 2 A.a_is_bounds A.d_is_bounds P_is_bounds (spBounds K) := by
  have G_is_list : FnOk P w K mg base CX0 1 A.a_is_list A.d_is_list P_is_list (spIsList K) := ok_islist T
  have G_is_integer : FnOk P w K mg base CX0 1 A.a_is_integer A.d_is_integer P_is_integer (spIsInt K) := ok_isint T
  refine T.f_is_bounds.ok sc_is_bounds (fun vs H Q E h => ?_) (fun cdv A' outer s H vs Q E hr h => ?_)
  · obtain ⟨a, l, m, rfl, _⟩ := h
    rfl
  · obtain ⟨a, l, m, rfl, ha, h1, h2, k⟩ := h
    refine ⟨_, (pss_cons (ps_if (PW.pt (pw_or (pt_not (pt_val (pe_call G_is_list (hr.mono (by omega)) (by rfl) T.g_is_list T.f_is_list.kp T.b_is_list .nil pass0 (pa_cons (pv 0) pa_nil)))) (pw_or1 (pt_cmpR op_ne (pe_callB call_len_seq (by rfl) T.len PySem.boot_len (pa_cons (pv 0) pa_nil)) pe_int (nomark _)))))
 (pss_one (ps_ret pe_bl))
 pss_nil)
 (pss_cons (ps_asg (pv 0) (Own.pg_lt (by rfl) (pgs_cons (pg_name (i := 1) sc_is_bounds.nd rfl (Or.inl rfl)) (pgs_cons (pg_name (i := 2) sc_is_bounds.nd rfl (Or.inl rfl)) pgs_nil))))
 (pss_one (ps_ret (pe_and (pe_call G_is_integer (hr.mono (by omega)) (by rfl) T.g_is_integer T.f_is_integer.kp T.b_is_integer .nil pass0 (pa_cons (pv 1) pa_nil)) (pe_and (pe_call G_is_integer (hr.mono (by omega)) (by rfl) T.g_is_integer T.f_is_integer.kp T.b_is_integer .nil pass0 (pa_cons (pv 2) pa_nil)) (pe_one (pe_chain op_le op_le pe_int (pv 1) (pv 2))))))))), ?_⟩
    obtain ⟨d, hD, hL⟩ : ∃ d, Dp K H (.ref a) d ∧ isL d = true := ha.elim (fun q => ⟨_, .lst q (.cons (.int l) (.cons (.int m) .nil)), rfl⟩) (fun q => ⟨_, .tup q (.cons (.int l) (.cons (.int m) .nil)), rfl⟩)
    refine ⟨_, rfl, .ref a, d, rfl, hD, fun H1 s1 => ⟨_, rfl, ?_⟩⟩
    rw [hL]
    refine iteF ?_
    have ha1 := sxUp ha s1
    refine ⟨_, rfl, a, _, rfl, ha1, rfl, _, rfl, iteF ?_⟩
    refine ⟨_, rfl, un2 ha1 ?_⟩
    refine ⟨_, rfl, .int l, .int l, rfl, .int l, _, rfl, iteT ?_⟩
    refine ⟨_, rfl, .int m, .int m, rfl, .int m, _, rfl, iteT ?_⟩
    refine ⟨_, rfl, _, _, rfl, rfl, _, rfl, ite2 (fun _ => ?_) (fun q => (q (decide_eq_true h1)).elim)⟩
    refine ⟨_, rfl, _, _, rfl, rfl, ?_⟩
    show Q (.bl (decide (l ≤ m))) H1
    rw [decide_eq_true h2]
    exact k _ s1
def spMoment (K : PySem.W.Frag) : Sp := fun vs H Q _ => ∃ (x : V) (dd : Addr) (d : PyData) (kvs : List (Key × V)), vs = [x, .ref dd] ∧ Dp K H x d ∧ Mom kvs (strip d) ∧ Rd H dd (.dK kvs) ∧ ∀ H', Same H H' → Q (.bl true) H'
theorem ok_moment (T : Txt K mg A) : FnOk P w K mg base CX0 2 A.a_is_moment A.d_is_moment P_is_moment (spMoment K) := by
  have G_is_list : FnOk P w K mg base CX0 1 A.a_is_list A.d_is_list P_is_list (spIsList K) := ok_islist T
  have G_is_dish : FnOk P w K mg base CX0 1 A.a_is_dish A.d_is_dish P_is_dish (spIsDish K) := ok_isdish T
  refine T.f_is_moment.ok sc_is_moment (fun vs H Q E h => ?_) (fun cdv A' outer s H vs Q E hr h => ?_)
  · obtain ⟨x, dd, d, kvs, rfl, _⟩ := h
    rfl
  · obtain ⟨x, dd, d, kvs, rfl, hx, hm, hd, k⟩ := h
    refine ⟨_, (pss_cons (ps_if (pt_not (pt_val (pe_call G_is_list (hr.mono (by omega)) (by rfl) T.g_is_list T.f_is_list.kp T.b_is_list .nil pass0 (pa_cons (pv 0) pa_nil))))
 (pss_one (ps_ret (pe_cmpR (op_eqD hr.units) (pv 0) (pe_glob (v := .str "clock") (by rfl) T.g_CLOCK.choose_spec ⟨_, rfl⟩) (nomark _))))
 pss_nil)
 (pss_one (ps_ret (pe_and (pe_cmpR op_eq (pe_callB call_len_seq (by rfl) T.len PySem.boot_len (pa_cons (pv 0) pa_nil)) pe_int (nomark _)) (pe_and (pe_cmpR op_in_seq (pe_ix (Own.ixLtOf (K := K) rfl) (pv 0) pe_int (fun _ _ => rfl)) (pe_glob (v := .ref A.a_EDGES) (by rfl) T.g_EDGES rfl) (by rfl)) (pe_one (pe_call G_is_dish (hr.mono (by omega)) (by rfl) T.g_is_dish T.f_is_dish.kp T.b_is_dish .nil pass0 (pa_cons (pe_ix (Own.ixLtOf (K := K) rfl) (pv 0) pe_int (fun _ _ => rfl)) (pa_cons (pv 1) pa_nil))))))))), ?_⟩
    generalize hz : strip d = z at hm
    cases hm with
    | clock =>
      obtain ⟨rfl, rfl⟩ := (dp_atom hx).1 _ hz
      refine ⟨_, rfl, _, _, rfl, .str _, fun H1 s1 => ⟨_, rfl, iteT ?_⟩⟩
      exact ⟨_, rfl, _, _, .str _, .str _, by decide +kernel, by decide +kernel, k _ s1⟩
    | @edge e n he hn ok =>
      obtain ⟨a, u, v, d1, d2, rfl, hq, h1, h2, e1, e2, hL, _⟩ := dp2 hx hz
      obtain ⟨rfl, rfl⟩ := (dp_atom h1).1 _ e1
      obtain ⟨rfl, rfl⟩ := (dp_atom h2).1 _ e2
      refine ⟨_, rfl, _, _, rfl, hx, fun H1 s1 => ⟨_, rfl, ?_⟩⟩
      rw [hL]
      refine iteF ?_
      have hq1 := sxUp hq s1
      refine ⟨_, rfl, _, _, rfl, hq1, rfl, _, rfl, iteT ?_⟩
      have hE : SqT K H1 A.a_EDGES [.str "start", .str "done"] := stUp T.t_EDGES (fun _ _ z => nomatch z)
      refine ⟨_, rfl, lt_of hq1 rfl ⟨_, _, rfl, .inr hE, rfl, rfl, _, rfl, ite2 (fun _ => ?_) (fun z => (z ?_).elim)⟩⟩
      · refine ⟨_, rfl, lt_of hq1 rfl ⟨_, rfl, .str n, dd, kvs, rfl, rdUp hd s1, .inl ⟨n, rfl, ?_⟩⟩⟩
        rw [hn]
        exact k _ s1
      · rcases he with q | q <;> (subst q; decide +kernel)
end
end K5
set_option Elab.async false
set_option linter.all false
set_option maxRecDepth 100000
set_option maxHeartbeats 4000000
namespace K5
open PySem L2
local macro_rules | `(tactic| walk_at "rd1") => `(tactic| first
  | refine ⟨_, _, rfl, rfl, ?_⟩
  | refine ⟨_, _, _, _, rfl, rfl, SqL.of (by assumption), rfl, ?_⟩
  | refine ⟨_, _, _, _, rfl, rfl, (by assumption), rfl, ?_⟩
  | refine .inl ⟨_, rfl, ?_⟩
  | refine ⟨_, rfl, ?_⟩
  | refine ⟨(by unfold CMul; omega), ?_⟩
  | refine ⟨(by unfold CPow; omega), ?_⟩
  | refine ⟨(by (try dsimp only); omega), ?_⟩
  | refine ⟨(by unfold CDiv; omega), ?_⟩
  | fail "rd1")
local macro_rules | `(tactic| walk_at "rd") => `(tactic| repeat' (walk_at "rd1"))
section
variable {P : Program} {w : World} {K : PySem.W.Frag} {mg : Str → Option Value} {base : Heap} {A : Ad}

def spWish (K : PySem.W.Frag) : Sp := fun vs H Q _ => ∃ (x : V) (dd : Addr) (d : PyData) (kvs : List (Key × V)), vs = [x, .ref dd] ∧ Dp K H x d ∧ Wsh kvs (strip d) ∧ Rd H dd (.dK kvs) ∧ ∀ H', Same H H' → Q (.bl true) H'
theorem ok_wish (T : Txt K mg A) : FnOk P w K mg base CX0 3 A.a_is_wish A.d_is_wish P_is_wish (spWish K) := by
  have G_is_list : FnOk P w K mg base CX0 1 A.a_is_list A.d_is_list P_is_list (spIsList K) := ok_islist T
  have G_is_integer : FnOk P w K mg base CX0 1 A.a_is_integer A.d_is_integer P_is_integer (spIsInt K) := ok_isint T
  have G_is_moment : FnOk P w K mg base CX0 2 A.a_is_moment A.d_is_moment P_is_moment (spMoment K) := ok_moment T
  refine T.f_is_wish.ok sc_is_wish (fun vs H Q E h => ?_) (fun cdv A' outer s H vs Q E hr h => ?_)
  · obtain ⟨x, dd, d, kvs, rfl, _⟩ := h
    rfl
  · obtain ⟨x, dd, d, kvs, rfl, hx, hm, hd, k⟩ := h
    refine ⟨_, (pss_cons (ps_if (PW.pt (pw_or (pt_not (pt_val (pe_call G_is_list (hr.mono (by omega)) (by rfl) T.g_is_list T.f_is_list.kp T.b_is_list .nil pass0 (pa_cons (pv 0) pa_nil)))) (pw_or1 (pt_cmpR op_ne (pe_callB call_len_seq (by rfl) T.len PySem.boot_len (pa_cons (pv 0) pa_nil)) pe_int (nomark _)))))
 (pss_one (ps_ret pe_bl))
 pss_nil)
 (pss_cons (ps_asg (pv 0) (Own.pg_lt (by rfl) (pgs_cons (pg_name (i := 2) sc_is_wish.nd rfl (Or.inl rfl)) (pgs_cons (pg_name (i := 3) sc_is_wish.nd rfl (Or.inl rfl)) (pgs_cons (pg_name (i := 4) sc_is_wish.nd rfl (Or.inl rfl)) pgs_nil)))))
 (pss_one (ps_ret (pe_and (pe_call G_is_moment (hr.mono (by omega)) (by rfl) T.g_is_moment T.f_is_moment.kp T.b_is_moment .nil pass0 (pa_cons (pv 2) (pa_cons (pv 1) pa_nil))) (pe_and (pe_call G_is_moment (hr.mono (by omega)) (by rfl) T.g_is_moment T.f_is_moment.kp T.b_is_moment .nil pass0 (pa_cons (pv 3) (pa_cons (pv 1) pa_nil))) (pe_one (pe_call G_is_integer (hr.mono (by omega)) (by rfl) T.g_is_integer T.f_is_integer.kp T.b_is_integer .nil pass0 (pa_cons (pv 4) pa_nil))))))))), ?_⟩
    generalize hz : strip d = z at hm
    cases hm with
    | @mk p q m ha hb =>
      obtain ⟨a, u, v, t, d1, d2, d3, rfl, hq, h1, h2, h3, e1, e2, e3, hL⟩ := dp3 hx hz
      obtain ⟨rfl, rfl⟩ := (dp_atom h3).2 _ e3
      subst e1
      subst e2
      refine ⟨_, rfl, _, _, rfl, hx, fun H1 s1 => ⟨_, rfl, ?_⟩⟩
      rw [hL]
      refine iteF ?_
      have hq1 := sxUp hq s1
      refine ⟨_, rfl, _, _, rfl, hq1, rfl, _, rfl, iteF ?_⟩
      refine ⟨_, rfl, un3 hq1 ?_⟩
      refine ⟨_, rfl, _, rfl, u, dd, d1, kvs, rfl, dpSame s1 h1, ha, rdUp hd s1, fun H2 s2 => ⟨_, rfl, iteT ?_⟩⟩
      refine ⟨_, rfl, _, rfl, v, dd, d2, kvs, rfl, dpSame (s1.trans s2) h2, hb, rdUp hd (s1.trans s2), fun H3 s3 => ⟨_, rfl, iteT ?_⟩⟩
      exact ⟨_, rfl, .int m, .int m, rfl, .int m, k _ ((s1.trans s2).trans s3)⟩
def spStation (K : PySem.W.Frag) : Sp := fun vs H Q _ => ∃ (x : V) (dd : Addr) (d : PyData) (kvs : List (Key × V)), vs = [x, .ref dd] ∧ Dp K H x d ∧ Stn kvs (strip d) ∧ Rd H dd (.dK kvs) ∧ ∀ H', Same H H' → Q (.bl true) H'
theorem ok_station (T : Txt K mg A) : FnOk P w K mg base CX0 2 A.a_is_station A.d_is_station P_is_station (spStation K) := by
  have G_is_list : FnOk P w K mg base CX0 1 A.a_is_list A.d_is_list P_is_list (spIsList K) := ok_islist T
  have G_is_dish : FnOk P w K mg base CX0 1 A.a_is_dish A.d_is_dish P_is_dish (spIsDish K) := ok_isdish T
  refine T.f_is_station.ok sc_is_station (fun vs H Q E h => ?_) (fun cdv A' outer s H vs Q E hr h => ?_)
  · obtain ⟨x, dd, d, kvs, rfl, _⟩ := h
    rfl
  · obtain ⟨x, dd, d, kvs, rfl, hx, ⟨ss, hz, nd, l2, l64, hin⟩, hd, k⟩ := h
    refine ⟨_, (pss_cons (ps_if (PW.pt (pw_or (pt_not (pt_val (pe_call G_is_list (hr.mono (by omega)) (by rfl) T.g_is_list T.f_is_list.kp T.b_is_list .nil pass0 (pa_cons (pv 0) pa_nil)))) (pw_or1 (pt_cmpR op_lt (pe_callB call_len_seq (by rfl) T.len PySem.boot_len (pa_cons (pv 0) pa_nil)) pe_int (nomark _)))))
 (pss_one (ps_ret pe_bl))
 pss_nil)
 (pss_one (ps_ret (pe_and (pe_callB (cr_all rfl) (by rfl) T.all (by decide +kernel) (pa_cons (pe_lc (own := [("name", 2)]) (g := gName 2) (by rfl) sc_is_station.nd (EnT.pi_or (pi_list (pv 0)) (pi_tup (pv 0))) (blkOk_by (N := N_is_station) (sc := defScope s_is_station) (by decide +kernel)) (fun _ _ _ _ _ => pg_name (i := 2) sc_is_station.nd rfl (Or.inl rfl)) (fun _ _ _ _ _ => pts_nil) (fun _ _ _ _ _ => (pe_call G_is_dish (hr.mono (by omega)) (by rfl) T.g_is_dish T.f_is_dish.kp T.b_is_dish .nil pass0 (pa_cons (pv 2) (pa_cons (pv 1) pa_nil))))) pa_nil)) (pe_one (pe_cmpR op_eq (Own.pe_lenTexts rfl (by rfl) T.len (by rfl) T.set (pv 0)) (pe_callB call_len_seq (by rfl) T.len PySem.boot_len (pa_cons (pv 0) pa_nil)) (nomark _))))))), ?_⟩
    obtain ⟨a, xs, ds, rfl, hq, hA, e1, hL, _⟩ := dp_seq hx hz
    obtain rfl := dpAll_strs hA e1
    refine ⟨_, rfl, _, _, rfl, hx, fun H1 s1 => ⟨_, rfl, ?_⟩⟩
    rw [hL]
    refine iteF ?_
    have hq1 := sxUp hq s1
    refine ⟨_, rfl, _, _, rfl, hq1, _, _, rfl, rfl, _, rfl, ite2 (fun z => ?_) (fun _ => ?_)⟩
    · have z : ((ss.map V.str).length : Int) < 2 := of_decide_eq_true z
      rw [List.length_map] at z; omega
    refine seq_or (H0 := H1) hq1 (Same.refl _) rfl fun J G wk hG => fun D hD => lc_it wk (fun i H' => Same H1 H' ∧ H' D = some (.lst ((List.replicate i true).map V.bl))) ⟨Same.new hD, upd_same⟩ (fun i H' _ z => hG H' z.1) ?_ (fun H2 z => ?_)
    · rintro i x H' H'' hi ⟨s2, hD2⟩ ⟨rfl, hx'⟩
      obtain ⟨hi2, rfl⟩ := str_at hx'
      refine ⟨rfl, _, rfl, _, rfl, .str ss[i], dd, kvs, rfl, rdUp hd (s1.trans s2), .inl ⟨_, rfl, ?_⟩⟩
      rw [hin _ (List.getElem_mem hi2)]
      refine ⟨_, hD2, by rw [List.length_map, List.length_replicate]; exact Nat.lt_of_lt_of_le (show i < 64 by omega) (by decide), ?_, ?_⟩
      · exact fun b u e => by rw [upd_ne (ne_of_none e hD)]; exact s2 _ _ e
      · rw [upd_same, List.replicate_succ', List.map_append]; rfl
    obtain ⟨s2, hD2⟩ := z
    have S2 := s1.trans s2
    refine ⟨D, _, rfl, SqL.of hD2, ?_⟩
    rw [all_true]
    refine ⟨_, rfl, iteT ?_⟩
    refine ⟨_, rfl, a, ss, rfl, sxUp hq S2, nd, l64, _, rfl, a, _, rfl, sxUp hq S2, rfl, ?_⟩
    rw [List.length_map, decide_eq_true rfl]
    exact k _ S2
def spAsM (K : PySem.W.Frag) : Sp := fun vs H Q _ => ∃ (x : V) (d : PyData) (kvs : List (Key × V)), vs = [x] ∧ Dp K H x d ∧ Mom kvs (strip d) ∧ ∀ r H', Same H H' → Dp K H' r (strip d) → Q r H'
theorem ok_asm (T : Txt K mg A) : FnOk P w K mg base CX0 1 A.a_as_moment A.d_as_moment P_as_moment (spAsM K) := by
  refine T.f_as_moment.ok sc_as_moment (fun vs H Q E h => ?_) (fun cdv A' outer s H vs Q E hr h => ?_)
  · obtain ⟨x, d, kvs, rfl, _⟩ := h
    rfl
  · obtain ⟨x, d, kvs, rfl, hx, hm, k⟩ := h
    refine ⟨_, (pss_one (ps_ret (pe_ifExp (pt_cmpR (op_eqD hr.units) (pv 0) (pe_glob (v := .str "clock") (by rfl) T.g_CLOCK.choose_spec ⟨_, rfl⟩) (nomark _)) (pe_glob (v := .str "clock") (by rfl) T.g_CLOCK.choose_spec ⟨_, rfl⟩) (pe_callTy call_tuple_of (by rfl) T.tuple (by decide +kernel) (pa_cons (pv 0) pa_nil))))), ?_⟩
    generalize hz : strip d = z at hm k
    cases hm with
    | clock =>
      obtain ⟨rfl, rfl⟩ := (dp_atom hx).1 _ hz
      exact ⟨_, rfl, _, _, .str _, .str _, by decide +kernel, by decide +kernel, _, rfl, iteT (k _ _ (Same.refl _) (.str _))⟩
    | @edge e n he hn ok =>
      obtain ⟨a, u, v, d1, d2, rfl, hq, h1, h2, e1, e2, hL, hd⟩ := dp2 hx hz
      obtain ⟨rfl, rfl⟩ := (dp_atom h1).1 _ e1
      obtain ⟨rfl, rfl⟩ := (dp_atom h2).1 _ e2
      have he' : PyData.strOk e = true := by rcases he with q | q <;> (subst q; decide +kernel)
      have hsh : SeqAt.shaped d = true := by
        rcases hd with rfl | rfl <;> simp [SeqAt.shaped, PyData.canLay0, PyData.canLayAll0, PyData.depth, PyData.depthAll, he', ok]
      have hne : PyData.eqv d (.str "clock") = false := by
        rcases hd with rfl | rfl <;> simp [PyData.eqv]
      have fin : ∀ r H', Same H H' → SqT K H' r [.str e, .str n] → Q (.ref r) H' := fun r H' s z => k _ _ s (.tup z (.cons (.str _) (.cons (.str _) .nil)))
      refine ⟨_, rfl, _, _, hx, .str _, hsh, by decide +kernel, _, rfl, ?_⟩
      rw [hne]
      refine iteF ?_
      refine ⟨_, rfl, a, [.str e, .str n], rfl, ?_⟩
      exact hq.elim (fun z => .inl ⟨z, fun l nl => fin l _ (Same.new nl) (SqT.of upd_same)⟩) (fun z => .inr ⟨z, fin a H (Same.refl _) z⟩)
def spAsW (K : PySem.W.Frag) : Sp := fun vs H Q _ => ∃ (x : V) (d : PyData) (kvs : List (Key × V)), vs = [x] ∧ Dp K H x d ∧ Wsh kvs (strip d) ∧ ∀ r H', Same H H' → Dp K H' (.ref r) (strip d) → Q (.ref r) H'
theorem ok_asw (T : Txt K mg A) : FnOk P w K mg base CX0 2 A.a_as_wish A.d_as_wish P_as_wish (spAsW K) := by
  have G_as_moment : FnOk P w K mg base CX0 1 A.a_as_moment A.d_as_moment P_as_moment (spAsM K) := ok_asm T
  refine T.f_as_wish.ok sc_as_wish (fun vs H Q E h => ?_) (fun cdv A' outer s H vs Q E hr h => ?_)
  · obtain ⟨x, d, kvs, rfl, _⟩ := h
    rfl
  · obtain ⟨x, d, kvs, rfl, hx, hm, k⟩ := h
    refine ⟨_, (pss_cons (ps_asg (pv 0) (Own.pg_lt (by rfl) (pgs_cons (pg_name (i := 1) sc_as_wish.nd rfl (Or.inl rfl)) (pgs_cons (pg_name (i := 2) sc_as_wish.nd rfl (Or.inl rfl)) (pgs_cons (pg_name (i := 3) sc_as_wish.nd rfl (Or.inl rfl)) pgs_nil)))))
 (pss_one (ps_ret (pe_tup (pa_cons (pe_call G_as_moment (hr.mono (by omega)) (by rfl) T.g_as_moment T.f_as_moment.kp T.b_as_moment .nil pass0 (pa_cons (pv 1) pa_nil)) (pa_cons (pe_call G_as_moment (hr.mono (by omega)) (by rfl) T.g_as_moment T.f_as_moment.kp T.b_as_moment .nil pass0 (pa_cons (pv 2) pa_nil)) (pa_cons (pv 3) pa_nil))))))), ?_⟩
    generalize hz : strip d = z at hm k
    cases hm with
    | @mk p q m ha hb =>
      obtain ⟨a, u, v, t, d1, d2, d3, rfl, hq, h1, h2, h3, e1, e2, e3, hL⟩ := dp3 hx hz
      obtain ⟨rfl, rfl⟩ := (dp_atom h3).2 _ e3
      subst e1
      subst e2
      refine ⟨_, rfl, un3 hq ?_⟩
      refine ⟨_, rfl, u, d1, kvs, rfl, h1, ha, fun r1 H1 s1 D1 => ⟨_, rfl, v, d2, kvs, rfl, dpSame s1 h2, hb, fun r2 H2 s2 D2 => ⟨_, rfl, by show 3 ≤ sizeLine; decide, fun p hp => ?_⟩⟩⟩
      have s3 := (s1.trans s2).trans (Same.new hp (o := .tup [r1, r2, .int m]))
      exact k p _ s3 (.tup (SqT.of upd_same) (.cons (dpSame (s2.trans (Same.new hp)) D1) (.cons (dpSame (Same.new hp) D2) (.cons (.int m) .nil))))
end
end K5
set_option Elab.async false
set_option linter.all false
set_option maxRecDepth 100000
set_option maxHeartbeats 4000000
namespace K5
open PySem L2
local macro_rules | `(tactic| walk_at "rd1") => `(tactic| first
  | refine ⟨_, _, rfl, rfl, ?_⟩
  | refine ⟨_, _, _, _, rfl, rfl, SqL.of (by assumption), rfl, ?_⟩
  | refine ⟨_, _, _, _, rfl, rfl, (by assumption), rfl, ?_⟩
  | refine .inl ⟨_, rfl, ?_⟩
  | refine ⟨_, rfl, ?_⟩
  | refine ⟨(by unfold CMul; omega), ?_⟩
  | refine ⟨(by unfold CPow; omega), ?_⟩
  | refine ⟨(by (try dsimp only); omega), ?_⟩
  | refine ⟨(by unfold CDiv; omega), ?_⟩
  | fail "rd1")
local macro_rules | `(tactic| walk_at "rd") => `(tactic| repeat' (walk_at "rd1"))
section
variable {P : Program} {w : World} {K : PySem.W.Frag} {mg : Str → Option Value} {base : Heap} {A : Ad}

def kvF (ns : List Str) (f : Str → V) : List (Key × V) := ns.map fun n => (.inr n, f n)
theorem kvF_keys (ns : List Str) (f : Str → V) : (kvF ns f).map (·.1) = ns.map Sum.inr := by simp [kvF]
theorem kvF_len (ns : List Str) (f : Str → V) : (kvF ns f).length = ns.length := by simp [kvF]
theorem inr_nd {ns : List Str} (h : ns.Nodup) : (ns.map (Sum.inr : Str → Key)).Nodup := List.pairwise_map.mpr (h.imp fun n e => n (Sum.inr.inj e))
theorem kvF_snoc (ns : List Str) (n : Str) (f : Str → V) : kvF (ns ++ [n]) f = kvF ns f ++ [(.inr n, f n)] := by simp [kvF]
theorem kvF_at {ns : List Str} {f : Str → V} {i : Nat} {k : Key} {v : V} (h : (kvF ns f)[i]? = some (k, v)) : ∃ hi : i < ns.length, k = .inr ns[i] ∧ v = f ns[i] := by
  have hi : i < ns.length := by
    have := (List.getElem?_eq_some_iff.mp h).1
    rwa [kvF_len] at this
  unfold kvF at h
  rw [List.getElem?_map, List.getElem?_eq_getElem hi] at h
  cases h
  exact ⟨hi, rfl, rfl⟩
theorem kvF_val {ns : List Str} {f : Str → V} {n : Str} (nd : ns.Nodup) (m : n ∈ ns) : valV (kvF ns f) (.inr n) = some (f n) := by
  obtain ⟨i, hi, e⟩ := List.getElem_of_mem m
  refine valV_at (i := i) (by rw [kvF_keys]; exact inr_nd nd) ?_
  unfold kvF
  rw [List.getElem?_map, List.getElem?_eq_getElem hi, e]; rfl
structure Pr2 (K : PySem.W.Frag) (H : Hp) (ns : List Str) (f g : Str → V) (kvs : List (Key × V)) : Prop where
  keys : kvs.map (·.1) = ns.map Sum.inr
  at_ : ∀ (i : Nat) (n : Str), ns[i]? = some n → ∃ a : Addr, kvs[i]? = some (.inr n, .ref a) ∧ SqT K H a [f n, g n]
theorem Pr2.up {H H' : Hp} {ns : List Str} {f g : Str → V} {kvs : List (Key × V)} (h : Pr2 K H ns f g kvs) (s : Same H H') : Pr2 K H' ns f g kvs :=
  ⟨h.keys, fun i n e => by obtain ⟨a, e1, e2⟩ := h.at_ i n e; exact ⟨a, e1, stUp e2 s⟩⟩
theorem Pr2.er {H : Hp} {p : Addr} {u : HO} {ns : List Str} {f g : Str → V} {kvs : List (Key × V)} (h : Pr2 K H ns f g kvs) (hp : H p = some u) (hu : NoTup u) : Pr2 K (er H p) ns f g kvs :=
  ⟨h.keys, fun i n e => by obtain ⟨a, e1, e2⟩ := h.at_ i n e; exact ⟨a, e1, tupEr hp hu e2⟩⟩
theorem Pr2.set {H : Hp} {p : Addr} {u o : HO} {ns : List Str} {f g : Str → V} {kvs : List (Key × V)} (h : Pr2 K H ns f g kvs) (hp : H p = some u) (hu : NoTup u) : Pr2 K (upd H p o) ns f g kvs :=
  ⟨h.keys, fun i n e => by obtain ⟨a, e1, e2⟩ := h.at_ i n e; exact ⟨a, e1, tupSet hp hu e2⟩⟩
theorem Pr2.len {H : Hp} {ns : List Str} {f g : Str → V} {kvs : List (Key × V)} (h : Pr2 K H ns f g kvs) : kvs.length = ns.length := by
  have := congrArg List.length h.keys
  rwa [List.length_map, List.length_map] at this
theorem Pr2.nil {H : Hp} {f g : Str → V} : Pr2 K H [] f g [] := ⟨rfl, fun i n e => by simp at e⟩
theorem Pr2.snoc {H : Hp} {ns : List Str} {f g : Str → V} {kvs : List (Key × V)} {n : Str} {a : Addr} (h : Pr2 K H ns f g kvs) (ha : SqT K H a [f n, g n]) : Pr2 K H (ns ++ [n]) f g (kvs ++ [(.inr n, .ref a)]) := by
  refine ⟨by rw [List.map_append, List.map_append, h.keys]; rfl, fun i m e => ?_⟩
  rcases Nat.lt_or_ge i ns.length with lt | ge
  · rw [List.getElem?_append_left lt] at e
    rw [List.getElem?_append_left (by rw [h.len]; exact lt)]
    exact h.at_ i m e
  · rw [List.getElem?_append_right ge] at e
    rw [List.getElem?_append_right (by rw [h.len]; exact ge), h.len]
    cases e0 : i - ns.length with
    | zero => rw [e0] at e; cases e; exact ⟨a, rfl, ha⟩
    | succ j => rw [e0] at e; simp at e
theorem Pr2.get {H : Hp} {ns : List Str} {f g : Str → V} {kvs : List (Key × V)} (h : Pr2 K H ns f g kvs) {i : Nat} {k : Key} {v : V} (e : kvs[i]? = some (k, v)) : ∃ (hi : i < ns.length) (a : Addr), k = .inr ns[i] ∧ v = .ref a ∧ SqT K H a [f ns[i], g ns[i]] := by
  have hi : i < ns.length := by rw [← h.len]; exact (List.getElem?_eq_some_iff.mp e).1
  obtain ⟨a, e1, e2⟩ := h.at_ i ns[i] (List.getElem?_eq_getElem hi)
  rw [e] at e1
  cases e1
  exact ⟨hi, a, rfl, rfl, e2⟩
theorem Pr2.val {H : Hp} {ns : List Str} {f g : Str → V} {kvs : List (Key × V)} (h : Pr2 K H ns f g kvs) (nd : ns.Nodup) {n : Str} (m : n ∈ ns) : ∃ a : Addr, valV kvs (.inr n) = some (.ref a) ∧ SqT K H a [f n, g n] := by
  obtain ⟨i, hi, e⟩ := List.getElem_of_mem m
  obtain ⟨a, e1, e2⟩ := h.at_ i n (by rw [List.getElem?_eq_getElem hi, e])
  exact ⟨a, valV_at (by rw [h.keys]; exact inr_nd nd) e1, e2⟩
theorem Pr2.congr {H : Hp} {ns : List Str} {f g f' g' : Str → V} {kvs : List (Key × V)} (h : Pr2 K H ns f g kvs) (e : ∀ n ∈ ns, f n = f' n ∧ g n = g' n) : Pr2 K H ns f' g' kvs :=
  ⟨h.keys, fun i n q => by
    obtain ⟨a, e1, e2⟩ := h.at_ i n q
    obtain ⟨x, y⟩ := e n (List.mem_of_getElem? q)
    exact ⟨a, e1, by rw [← x, ← y]; exact e2⟩⟩
/-- neither a list nor a tuple -/
structure NoSq (u : HO) : Prop where
  t : NoTup u
  l : ∀ xs, u ≠ .lst xs
  f : ∀ o xs, u ≠ .frz o (.lst xs)
theorem noSq_dK (kvs : List (Key × V)) : NoSq (.dK kvs) := ⟨noTup_dK _, fun _ z => (nomatch z), fun _ _ z => (nomatch z)⟩
theorem noSq_ins (C dx : Addr) (fs : List (Str × V)) : NoSq (.ins C dx fs) := ⟨⟨fun _ z => (nomatch z), fun _ _ z => (nomatch z)⟩, fun _ z => (nomatch z), fun _ _ z => (nomatch z)⟩
theorem noSq_frz (o : Obj) (kvs : List (Key × V)) : NoSq (.frz o (.dK kvs)) := ⟨⟨fun _ z => (nomatch z), fun _ _ z => (nomatch z)⟩, fun _ z => (nomatch z), fun _ _ z => (nomatch z)⟩
theorem sxEr {H : Hp} {p a : Addr} {u : HO} {xs : List V} (hp : H p = some u) (hu : NoSq u) (h : SqX K H a xs) : SqX K (er H p) a xs := by
  rcases h with h | h
  · refine .inl ?_
    rcases h with (e | ⟨o, e⟩) | k
    · exact .inl (.inl (er_of (fun z => by rw [z, hp] at e; exact hu.l _ (Option.some.inj e)) e))
    · exact .inl (.inr ⟨o, er_of (fun z => by rw [z, hp] at e; exact hu.f _ _ (Option.some.inj e)) e⟩)
    · exact .inr k
  · exact .inr (tupEr hp hu.t h)
theorem sxSet {H : Hp} {p a : Addr} {u o : HO} {xs : List V} (hp : H p = some u) (hu : NoSq u) (h : SqX K H a xs) : SqX K (upd H p o) a xs := by
  refine sxUp (sxEr hp hu h) fun b v e => ?_
  have q := er_some e
  rw [upd_ne q.1]; exact q.2
/-! ### rows of pairs, each a list or a tuple -/
structure PrX (K : PySem.W.Frag) (H : Hp) (ns : List Str) (f g : Str → V) (kvs : List (Key × V)) : Prop where
  keys : kvs.map (·.1) = ns.map Sum.inr
  at_ : ∀ (i : Nat) (n : Str), ns[i]? = some n → ∃ a : Addr, kvs[i]? = some (.inr n, .ref a) ∧ SqX K H a [f n, g n]
theorem PrX.up {H H' : Hp} {ns : List Str} {f g : Str → V} {kvs : List (Key × V)} (h : PrX K H ns f g kvs) (s : Same H H') : PrX K H' ns f g kvs :=
  ⟨h.keys, fun i n e => by obtain ⟨a, e1, e2⟩ := h.at_ i n e; exact ⟨a, e1, sxUp e2 s⟩⟩
theorem PrX.er {H : Hp} {p : Addr} {u : HO} {ns : List Str} {f g : Str → V} {kvs : List (Key × V)} (h : PrX K H ns f g kvs) (hp : H p = some u) (hu : NoSq u) : PrX K (er H p) ns f g kvs :=
  ⟨h.keys, fun i n e => by obtain ⟨a, e1, e2⟩ := h.at_ i n e; exact ⟨a, e1, sxEr hp hu e2⟩⟩
theorem PrX.set {H : Hp} {p : Addr} {u o : HO} {ns : List Str} {f g : Str → V} {kvs : List (Key × V)} (h : PrX K H ns f g kvs) (hp : H p = some u) (hu : NoSq u) : PrX K (upd H p o) ns f g kvs :=
  ⟨h.keys, fun i n e => by obtain ⟨a, e1, e2⟩ := h.at_ i n e; exact ⟨a, e1, sxSet hp hu e2⟩⟩
theorem PrX.len {H : Hp} {ns : List Str} {f g : Str → V} {kvs : List (Key × V)} (h : PrX K H ns f g kvs) : kvs.length = ns.length := by
  have := congrArg List.length h.keys
  rwa [List.length_map, List.length_map] at this
theorem PrX.nil {H : Hp} {f g : Str → V} : PrX K H [] f g [] := ⟨rfl, fun i n e => by simp at e⟩
theorem PrX.snoc {H : Hp} {ns : List Str} {f g : Str → V} {kvs : List (Key × V)} {n : Str} {a : Addr} (h : PrX K H ns f g kvs) (ha : SqX K H a [f n, g n]) : PrX K H (ns ++ [n]) f g (kvs ++ [(.inr n, .ref a)]) := by
  refine ⟨by rw [List.map_append, List.map_append, h.keys]; rfl, fun i m e => ?_⟩
  rcases Nat.lt_or_ge i ns.length with lt | ge
  · rw [List.getElem?_append_left lt] at e
    rw [List.getElem?_append_left (by rw [h.len]; exact lt)]
    exact h.at_ i m e
  · rw [List.getElem?_append_right ge] at e
    rw [List.getElem?_append_right (by rw [h.len]; exact ge), h.len]
    cases e0 : i - ns.length with
    | zero => rw [e0] at e; cases e; exact ⟨a, rfl, ha⟩
    | succ j => rw [e0] at e; simp at e
theorem PrX.get {H : Hp} {ns : List Str} {f g : Str → V} {kvs : List (Key × V)} (h : PrX K H ns f g kvs) {i : Nat} {k : Key} {v : V} (e : kvs[i]? = some (k, v)) : ∃ (hi : i < ns.length) (a : Addr), k = .inr ns[i] ∧ v = .ref a ∧ SqX K H a [f ns[i], g ns[i]] := by
  have hi : i < ns.length := by rw [← h.len]; exact (List.getElem?_eq_some_iff.mp e).1
  obtain ⟨a, e1, e2⟩ := h.at_ i ns[i] (List.getElem?_eq_getElem hi)
  rw [e] at e1
  cases e1
  exact ⟨hi, a, rfl, rfl, e2⟩
theorem PrX.val {H : Hp} {ns : List Str} {f g : Str → V} {kvs : List (Key × V)} (h : PrX K H ns f g kvs) (nd : ns.Nodup) {n : Str} (m : n ∈ ns) : ∃ a : Addr, valV kvs (.inr n) = some (.ref a) ∧ SqX K H a [f n, g n] := by
  obtain ⟨i, hi, e⟩ := List.getElem_of_mem m
  obtain ⟨a, e1, e2⟩ := h.at_ i n (by rw [List.getElem?_eq_getElem hi, e])
  exact ⟨a, valV_at (by rw [h.keys]; exact inr_nd nd) e1, e2⟩
theorem PrX.congr {H : Hp} {ns : List Str} {f g f' g' : Str → V} {kvs : List (Key × V)} (h : PrX K H ns f g kvs) (e : ∀ n ∈ ns, f n = f' n ∧ g n = g' n) : PrX K H ns f' g' kvs :=
  ⟨h.keys, fun i n q => by
    obtain ⟨a, e1, e2⟩ := h.at_ i n q
    obtain ⟨x, y⟩ := e n (List.mem_of_getElem? q)
    exact ⟨a, e1, by rw [← x, ← y]; exact e2⟩⟩
theorem Pr2.x {H : Hp} {ns : List Str} {f g : Str → V} {kvs : List (Key × V)} (h : Pr2 K H ns f g kvs) : PrX K H ns f g kvs := ⟨h.keys, fun i n e => by obtain ⟨a, e1, e2⟩ := h.at_ i n e; exact ⟨a, e1, .inr e2⟩⟩
theorem dish_fn {E : Hp} {p : Addr} {ks : List Str} {kvs : List (Key × V)} (h : DishD K E p ks kvs) (nd : ks.Nodup) :
    ∃ lo hi : Str → Int, Pr2 K E ks (fun n => .int (lo n)) (fun n => .int (hi n)) kvs ∧ ∀ n ∈ ks, 1 ≤ lo n ∧ lo n ≤ hi n := by
  have hl : kvs.length = ks.length := by have := congrArg List.length h.keys; rwa [List.length_map, List.length_map] at this
  have ex : ∀ n : Str, ∃ q : Int × Int, ∀ i : Nat, ks[i]? = some n → (∃ a : Addr, kvs[i]? = some (.inr n, .ref a) ∧ SqT K E a [.int q.1, .int q.2]) ∧ 1 ≤ q.1 ∧ q.1 ≤ q.2 := fun n => by
    by_cases m : n ∈ ks
    · obtain ⟨j, hj, ej⟩ := List.getElem_of_mem m
      have hj2 : j < kvs.length := by omega
      have ek : (kvs.map (·.1))[j]? = some (.inr n) := by rw [h.keys, List.getElem?_map, List.getElem?_eq_getElem hj, ej]; rfl
      obtain ⟨⟨k, v⟩, e1, e2⟩ : ∃ kv, kvs[j]? = some kv ∧ kv.1 = .inr n := by
        rw [List.getElem?_map, List.getElem?_eq_getElem hj2] at ek
        exact ⟨_, List.getElem?_eq_getElem hj2, Option.some.inj ek⟩
      subst e2
      obtain ⟨b, l, u, e3, e4, e5, e6, _⟩ := h.vals j _ _ e1
      subst e3
      refine ⟨(l, u), fun i hi => ?_⟩
      have : i = j := by
        obtain ⟨hi1, hi2⟩ := List.getElem?_eq_some_iff.mp hi
        exact (List.getElem_inj nd).mp (hi2.trans ej.symm)
      subst this
      exact ⟨⟨b, e1, e4⟩, e5, e6⟩
    · exact ⟨(0, 0), fun i hi => absurd (List.mem_of_getElem? hi) m⟩
  refine ⟨fun n => (ex n).choose.1, fun n => (ex n).choose.2, ⟨h.keys, fun i n e => ((ex n).choose_spec i e).1⟩, fun n m => ?_⟩
  obtain ⟨j, hj, ej⟩ := List.getElem_of_mem m
  exact ((ex n).choose_spec j (by rw [List.getElem?_eq_getElem hj, ej])).2
theorem sle_of_rising : ∀ {p : Str} {l : List Str}, PyProof.Rows.risingS p l = true → (p :: l).Pairwise sle
  | _, [], _ => List.pairwise_singleton ..
  | p, x :: r, h => by
    unfold PyProof.Rows.risingS at h
    rw [Bool.and_eq_true] at h
    have ih := sle_of_rising h.2
    have hx : sle p x := fun z => by
      have e : PySem.Spec.ltCps x.cps.toList p.cps.toList = true := by rw [PyProof.Rows.ltCps_eq]; exact decide_eq_true z
      rw [e] at h; cases h.1
    refine List.pairwise_cons.mpr ⟨fun y hy => ?_, ih⟩
    rcases List.mem_cons.mp hy with e | hy
    · rw [e]; exact hx
    · exact sle_trans hx ((List.pairwise_cons.mp ih).1 y hy)
theorem sle_sorted {l : List Str} (h : PyProof.Rows.sortedS l = true) : l.Pairwise sle := by
  cases l with
  | nil => exact List.Pairwise.nil
  | cons x r => exact sle_of_rising h
theorem sle_anti {x y : Str} (a : sle x y) (b : sle y x) : x = y := by
  obtain ⟨x⟩ := x
  obtain ⟨y⟩ := y
  have e : x.toList = y.toList := List.le_antisymm (List.not_lt.mp a) (List.not_lt.mp b)
  rw [Array.toList_inj.mp e]
theorem asc_eq {xs ys : List Str} (p : xs.Perm ys) (hx : PyProof.Rows.sortedS xs = true) (hy : ys.Pairwise sle) : xs = ys :=
  p.eq_of_pairwise (fun _ _ _ _ a b => sle_anti a b) (sle_sorted hx) hy
theorem putF_len (f : Str) (v : V) : ∀ fs : List (Str × V), (putF f v fs).length ≤ fs.length + 1
  | [] => Nat.le_refl _
  | (g, x) :: r => by
    unfold putF
    by_cases e : g = f
    · rw [if_pos e]; exact Nat.le_succ _
    · rw [if_neg e]; exact Nat.succ_le_succ (putF_len f v r)
theorem noTup_ins (C dx : Addr) (fs : List (Str × V)) : NoTup (.ins C dx fs) := ⟨fun _ z => (nomatch z), fun _ _ z => (nomatch z)⟩
theorem flds3 (x y z : V) : putF "places" z (putF "wished" y (putF "bounds" x [])) = ([("bounds", x), ("wished", y), ("places", z)] : List (Str × V)) := by
  have h1 : putF "wished" y [(("bounds" : Str), x)] = ([("bounds", x), ("wished", y)] : List (Str × V)) := by
    show (if ("bounds" : Str) = "wished" then _ else _) = _
    rw [if_neg (by decide +kernel)]; rfl
  show putF "places" z (putF "wished" y [(("bounds" : Str), x)]) = _
  rw [h1]
  show (if ("bounds" : Str) = "places" then _ else _) = _
  rw [if_neg (by decide +kernel)]
  show _ :: (if ("wished" : Str) = "places" then _ else _) = _
  rw [if_neg (by decide +kernel)]; rfl
end
end K5
set_option Elab.async false
set_option linter.all false
set_option maxRecDepth 100000
set_option maxHeartbeats 4000000
namespace K5
open PySem L2
local macro_rules | `(tactic| walk_at "rd1") => `(tactic| first
  | refine ⟨_, _, rfl, rfl, ?_⟩
  | refine ⟨_, _, _, _, rfl, rfl, SqL.of (by assumption), rfl, ?_⟩
  | refine ⟨_, _, _, _, rfl, rfl, (by assumption), rfl, ?_⟩
  | refine .inl ⟨_, rfl, ?_⟩
  | refine ⟨_, rfl, ?_⟩
  | refine ⟨(by unfold CMul; omega), ?_⟩
  | refine ⟨(by unfold CPow; omega), ?_⟩
  | refine ⟨(by (try dsimp only); omega), ?_⟩
  | refine ⟨(by unfold CDiv; omega), ?_⟩
  | fail "rd1")
local macro_rules | `(tactic| walk_at "rd") => `(tactic| repeat' (walk_at "rd1"))
section
variable {P : Program} {w : World} {K : PySem.W.Frag} {mg : Str → Option Value} {base : Heap} {A : Ad}

structure Grow (K : PySem.W.Frag) (p : Addr) (H H' : Hp) (ds : List PyData) : Prop where
  ex : ∃ vs, H' p = some (.lst vs) ∧ DpAll K (er H' p) vs ds
  same : Same H (er H' p)
theorem Grow.start {p : Addr} {H : Hp} (hp : H p = none) : Grow K p H (upd H p (.lst [])) [] :=
  ⟨⟨[], upd_same, .nil⟩, fun b o e => by rw [er_upd]; exact er_of (ne_of_none e hp) e⟩
theorem Grow.up {p : Addr} {H H' H2 : Hp} {ds : List PyData} (g : Grow K p H H' ds) (s : Same H' H2) : Grow K p H H2 ds := by
  obtain ⟨vs, h1, h2⟩ := g.ex
  exact ⟨⟨vs, s _ _ h1, dpAllSame (er_mono s) h2⟩, g.same.trans (er_mono s)⟩
theorem dpAllApp {H : Hp} : ∀ {vs : List V} {ds : List PyData} {v : V} {d : PyData}, DpAll K H vs ds → Dp K H v d → DpAll K H (vs ++ [v]) (ds ++ [d])
  | _, _, _, _, .nil, h => .cons h .nil
  | _, _, _, _, .cons a b, h => .cons a (dpAllApp b h)
theorem Grow.app {p : Addr} {H H' : Hp} {ds : List PyData} {vs : List V} {v : V} {d : PyData} (g : Grow K p H H' ds) (hp : H' p = some (.lst vs)) (hv : Dp K (er H' p) v d) : Grow K p H (upd H' p (.lst (vs ++ [v]))) (ds ++ [d]) := by
  obtain ⟨vs', h1, h2⟩ := g.ex
  rw [hp] at h1
  cases h1
  exact ⟨⟨_, upd_same, by rw [er_upd]; exact dpAllApp h2 hv⟩, by rw [er_upd]; exact g.same⟩
theorem Grow.dp {p : Addr} {H H' : Hp} {ds : List PyData} (g : Grow K p H H' ds) : Dp K H' (.ref p) (.list ds) := by
  obtain ⟨vs, h1, h2⟩ := g.ex
  exact .lst (SqL.of h1) (dpAllSame (er_same _ _) h2)
/-- a dict of dishes: each key a name, each value a list or a tuple of bounds -/
structure DOk (K : PySem.W.Frag) (H : Hp) (kvs : List (Key × V)) : Prop where
  nd : (kvs.map (·.1)).Nodup
  each : ∀ (i : Nat) (k : Key) (v : V), kvs[i]? = some (k, v) → ∃ (s : Str) (a : Addr) (l m : Int), k = .inr s ∧ Nm s ∧ PyData.strOk s = true ∧ v = .ref a ∧ SqX K H a [.int l, .int m] ∧ 1 ≤ l ∧ l ≤ m
def spChkD (K : PySem.W.Frag) : Sp := fun vs H Q _ => ∃ (dd : Addr) (kvs : List (Key × V)), vs = [.ref dd] ∧ H dd = some (.dK kvs) ∧ DOk K (er H dd) kvs ∧ ∀ H', Same H H' → Q .non H'
def spChkW (K : PySem.W.Frag) : Sp := fun vs H Q _ => ∃ (a dd : Addr) (xs : List V) (ds : List PyData) (kvs : List (Key × V)), vs = [.ref a, .ref dd] ∧ SqX K H a xs ∧ DpAll K H xs ds ∧ (∀ d ∈ ds, Wsh kvs (strip d)) ∧ Rd H dd (.dK kvs) ∧ ∀ H', Same H H' → Q .non H'
def spChkS (K : PySem.W.Frag) : Sp := fun vs H Q _ => ∃ (a dd : Addr) (xs : List V) (ds : List PyData) (kvs : List (Key × V)), vs = [.ref a, .ref dd] ∧ SqX K H a xs ∧ DpAll K H xs ds ∧ (∀ d ∈ ds, Stn kvs (strip d)) ∧ Rd H dd (.dK kvs) ∧ ∀ H', Same H H' → Q .non H'
theorem dpX {H : Hp} {a : Addr} {xs : List V} {ds : List PyData} (h : SqX K H a xs) (hA : DpAll K H xs ds) : ∃ d, Dp K H (.ref a) d ∧ isL d = true :=
  h.elim (fun q => ⟨_, .lst q hA, rfl⟩) (fun q => ⟨_, .tup q hA, rfl⟩)
theorem ok_chkd (T : Txt K mg A) : FnOk P w K mg base CX0 3 A.a_check_dishes A.d_check_dishes P_check_dishes (spChkD K) := by
  have G_is_name : FnOk P w K mg base CX0 1 A.a_is_name A.d_is_name P_is_name spIsName := ok_isname T
  have G_is_bounds : FnOk P w K mg base CX0 2 A.a_is_bounds A.d_is_bounds P_is_bounds (spBounds K) := ok_bounds T
  refine T.f_check_dishes.ok sc_check_dishes (fun vs H Q E h => ?_) (fun cdv A' outer s H vs Q E hr h => ?_)
  · obtain ⟨dd, kvs, rfl, _⟩ := h
    rfl
  · obtain ⟨dd, kvs, rfl, hd, hO, k⟩ := h
    refine ⟨_, (pss_one (ps_lock (ps_for PassesOwn.never rfl (pi_keys (pv 0)) (pg_name (i := 1) sc_check_dishes.nd rfl (Or.inl rfl))
 (pss_one (ps_if (PW.pt (pw_or (pt_not (pt_val (pe_call G_is_name (hr.mono (by omega)) (by rfl) T.g_is_name T.f_is_name.kp T.b_is_name .nil pass0 (pa_cons (pv 1) pa_nil)))) (pw_or1 (pt_not (pt_val (pe_call G_is_bounds (hr.mono (by omega)) (by rfl) T.g_is_bounds T.f_is_bounds.kp T.b_is_bounds .nil pass0 (pa_cons (pe_dget (hu_of hr) (pv 0) (pv 1) (fun _ _ => rfl)) pa_nil)))))))
 (pss_one ps_never)
 pss_nil))))), ?_⟩
    refine ⟨dd, _, hd, trivial, fun od => ?_⟩
    have sE : Same (er H dd) (upd H dd (.frz od (.dK kvs))) := fun b u e => by rw [upd_ne (er_some e).1]; exact (er_some e).2
    refine ⟨_, rfl, dd, od, rfl, .inl ⟨kvs, upd_same, for_it walk_keys (fun i σ' H' => ∃ x, σ' = [some (.ref dd), x] ∧ Same (upd H dd (.frz od (.dK kvs))) H') ⟨none, rfl, Same.refl _⟩ (fun i σ' H' _ ⟨_, _, s⟩ => s _ _ upd_same) ?_ ?_⟩⟩
    · rintro i x σ' H' H'' hi ⟨y, rfl, s1⟩ ⟨rfl, key, v, hk, rfl⟩
      obtain ⟨z, a, l, m, rfl, hN, _, rfl, ha, hb1, hb2⟩ := hO.each i _ _ hk
      refine ⟨_, rfl, z, rfl, hN, fun H2 s2 => ⟨_, rfl, iteF ?_⟩⟩
      have hd2 : H2 dd = some (.frz od (.dK kvs)) := s2 _ _ (s1 _ _ upd_same)
      have ha2 := sxUp ha (sE.trans (s1.trans s2))
      refine ⟨_, rfl, _, rfl, dd, .ref a, rfl, .inl ⟨kvs, .inr z, .inr ⟨od, hd2⟩, rfl, (valV_at hO.nd hk).symm⟩, a, l, m, rfl, ha2, hb1, hb2, fun H3 s3 => ⟨_, rfl, iteF ?_⟩⟩
      exact ⟨_, rfl, (s1.trans s2).trans s3⟩
    · rintro σ' H' ⟨x, rfl, s1⟩
      refine ⟨s1 _ _ upd_same, k _ fun b u e => ?_⟩
      by_cases hb : b = dd
      · subst hb
        rw [hd] at e
        cases e
        exact upd_same
      · rw [upd_ne hb]
        exact s1 _ _ (by rw [upd_ne hb]; exact e)
theorem ok_chkw (T : Txt K mg A) : FnOk P w K mg base CX0 4 A.a_check_wishes A.d_check_wishes P_check_wishes (spChkW K) := by
  have G_is_list : FnOk P w K mg base CX0 1 A.a_is_list A.d_is_list P_is_list (spIsList K) := ok_islist T
  have G_is_wish : FnOk P w K mg base CX0 3 A.a_is_wish A.d_is_wish P_is_wish (spWish K) := ok_wish T
  refine T.f_check_wishes.ok sc_check_wishes (fun vs H Q E h => ?_) (fun cdv A' outer s H vs Q E hr h => ?_)
  · obtain ⟨a, dd, xs, ds, kvs, rfl, _⟩ := h
    rfl
  · obtain ⟨a, dd, xs, ds, kvs, rfl, ha, hA, hW, hd, k⟩ := h
    refine ⟨_, (pss_cons (ps_if (pt_not (pt_val (pe_call G_is_list (hr.mono (by omega)) (by rfl) T.g_is_list T.f_is_list.kp T.b_is_list .nil pass0 (pa_cons (pv 0) pa_nil))))
 (pss_one ps_never)
 pss_nil)
 (pss_one (ps_for PassesOwn.never rfl (EnT.pi_or (pi_enum (by rfl) T.enumerate (pa_cons (pv 0) pa_nil)) (EnT.pi_enumT (by rfl) T.enumerate (pa_cons (pv 0) pa_nil))) (pg_tup (by rfl) (pgs_cons (pg_name (i := 2) sc_check_wishes.nd rfl (Or.inl rfl)) (pgs_cons (pg_name (i := 3) sc_check_wishes.nd rfl (Or.inl rfl)) pgs_nil)))
 (pss_one (ps_if (pt_not (pt_val (pe_call G_is_wish (hr.mono (by omega)) (by rfl) T.g_is_wish T.f_is_wish.kp T.b_is_wish .nil pass0 (pa_cons (pv 3) (pa_cons (pv 1) pa_nil)))))
 (pss_one ps_never)
 pss_nil))))), ?_⟩
    obtain ⟨d, hD, hL⟩ := dpX ha hA
    refine ⟨_, rfl, _, d, rfl, hD, fun H1 s1 => ⟨_, rfl, ?_⟩⟩
    rw [hL]
    refine iteF ?_
    refine enum_or ha s1 rfl fun J G wk hG => for_it wk (fun i σ' H' => ∃ x y, σ' = [some (.ref a), some (.ref dd), x, y] ∧ Same H H') ⟨none, none, rfl, s1⟩ (fun i σ' H' _ ⟨_, _, _, s⟩ => hG H' s) ?_ ?_
    · rintro i x σ' H' H'' hi ⟨_, _, rfl, s2⟩ ⟨Tt, u, v, rfl, hT, rfl, hu, hv⟩
      have eu : u = .int (i : Nat) := (Option.some.inj hu).symm
      subst eu
      obtain ⟨d', hd1, hd2⟩ := dpGet hA hv
      have s3 : Same H (upd H' Tt (.tup [.int (i : Nat), v])) := s2.trans (Same.new hT)
      refine ⟨Tt, _, rfl, SqT.of upd_same, rfl, _, _, rfl, _, _, rfl, rfl, ?_⟩
      refine ⟨_, rfl, _, rfl, v, dd, d', kvs, rfl, dpSame s3 hd2, hW d' (List.mem_of_getElem? hd1), rdUp hd s3, fun H4 s4 => ⟨_, rfl, iteF ?_⟩⟩
      exact ⟨_, _, rfl, s3.trans s4⟩
    · rintro σ' H' ⟨_, _, rfl, s2⟩
      exact k _ s2
theorem ok_chks (T : Txt K mg A) : FnOk P w K mg base CX0 3 A.a_check_stations A.d_check_stations P_check_stations (spChkS K) := by
  have G_is_list : FnOk P w K mg base CX0 1 A.a_is_list A.d_is_list P_is_list (spIsList K) := ok_islist T
  have G_is_station : FnOk P w K mg base CX0 2 A.a_is_station A.d_is_station P_is_station (spStation K) := ok_station T
  refine T.f_check_stations.ok sc_check_stations (fun vs H Q E h => ?_) (fun cdv A' outer s H vs Q E hr h => ?_)
  · obtain ⟨a, dd, xs, ds, kvs, rfl, _⟩ := h
    rfl
  · obtain ⟨a, dd, xs, ds, kvs, rfl, ha, hA, hW, hd, k⟩ := h
    refine ⟨_, (pss_cons (ps_if (pt_not (pt_val (pe_call G_is_list (hr.mono (by omega)) (by rfl) T.g_is_list T.f_is_list.kp T.b_is_list .nil pass0 (pa_cons (pv 0) pa_nil))))
 (pss_one ps_never)
 pss_nil)
 (pss_one (ps_for PassesOwn.never rfl (EnT.pi_or (pi_enum (by rfl) T.enumerate (pa_cons (pv 0) pa_nil)) (EnT.pi_enumT (by rfl) T.enumerate (pa_cons (pv 0) pa_nil))) (pg_tup (by rfl) (pgs_cons (pg_name (i := 2) sc_check_stations.nd rfl (Or.inl rfl)) (pgs_cons (pg_name (i := 3) sc_check_stations.nd rfl (Or.inl rfl)) pgs_nil)))
 (pss_one (ps_if (pt_not (pt_val (pe_call G_is_station (hr.mono (by omega)) (by rfl) T.g_is_station T.f_is_station.kp T.b_is_station .nil pass0 (pa_cons (pv 3) (pa_cons (pv 1) pa_nil)))))
 (pss_one ps_never)
 pss_nil))))), ?_⟩
    obtain ⟨d, hD, hL⟩ := dpX ha hA
    refine ⟨_, rfl, _, d, rfl, hD, fun H1 s1 => ⟨_, rfl, ?_⟩⟩
    rw [hL]
    refine iteF ?_
    refine enum_or ha s1 rfl fun J G wk hG => for_it wk (fun i σ' H' => ∃ x y, σ' = [some (.ref a), some (.ref dd), x, y] ∧ Same H H') ⟨none, none, rfl, s1⟩ (fun i σ' H' _ ⟨_, _, _, s⟩ => hG H' s) ?_ ?_
    · rintro i x σ' H' H'' hi ⟨_, _, rfl, s2⟩ ⟨Tt, u, v, rfl, hT, rfl, hu, hv⟩
      have eu : u = .int (i : Nat) := (Option.some.inj hu).symm
      subst eu
      obtain ⟨d', hd1, hd2⟩ := dpGet hA hv
      have s3 : Same H (upd H' Tt (.tup [.int (i : Nat), v])) := s2.trans (Same.new hT)
      refine ⟨Tt, _, rfl, SqT.of upd_same, rfl, _, _, rfl, _, _, rfl, rfl, ?_⟩
      refine ⟨_, rfl, _, rfl, v, dd, d', kvs, rfl, dpSame s3 hd2, hW d' (List.mem_of_getElem? hd1), rdUp hd s3, fun H4 s4 => ⟨_, rfl, iteF ?_⟩⟩
      exact ⟨_, _, rfl, s3.trans s4⟩
    · rintro σ' H' ⟨_, _, rfl, s2⟩
      exact k _ s2
end
end K5
set_option Elab.async false
set_option linter.all false
set_option maxRecDepth 100000
set_option maxHeartbeats 4000000
namespace K5
open PySem L2
local macro_rules | `(tactic| walk_at "rd1") => `(tactic| first
  | refine ⟨_, _, rfl, rfl, ?_⟩
  | refine ⟨_, _, _, _, rfl, rfl, SqL.of (by assumption), rfl, ?_⟩
  | refine ⟨_, _, _, _, rfl, rfl, (by assumption), rfl, ?_⟩
  | refine .inl ⟨_, rfl, ?_⟩
  | refine ⟨_, rfl, ?_⟩
  | refine ⟨(by unfold CMul; omega), ?_⟩
  | refine ⟨(by unfold CPow; omega), ?_⟩
  | refine ⟨(by (try dsimp only); omega), ?_⟩
  | refine ⟨(by unfold CDiv; omega), ?_⟩
  | fail "rd1")
local macro_rules | `(tactic| walk_at "rd") => `(tactic| repeat' (walk_at "rd1"))
section
variable {P : Program} {w : World} {K : PySem.W.Frag} {mg : Str → Option Value} {base : Heap} {A : Ad}

def rTupOf (K : PySem.W.Frag) : List V → Hp → VK → Prop := fun us H Q => ∃ b zs, us = [.ref b] ∧ ((SqL K H b zs ∧ ∀ l, H l = none → Q (.ref l) (upd H l (.tup zs))) ∨ (SqT K H b zs ∧ Q (.ref b) H))
theorem tupOf {X : Cx} {K : PySem.W.Frag} (h : X.K = K) : CallR X (.type "tuple") (rTupOf K) := h ▸ call_tuple_of
/-! ### data without lists -/
mutual
def tp : PyData → Bool
  | .list _ => false
  | .tuple xs => tpAll xs
  | _ => true
def tpAll : List PyData → Bool
  | [] => true
  | d :: ds => tp d && tpAll ds
end
mutual
theorem tp_strip : ∀ d : PyData, tp (strip d) = true
  | .list xs => by simp only [strip, tp]; exact tp_stripAll xs
  | .tuple xs => by simp only [strip, tp]; exact tp_stripAll xs
  | .none => by simp [strip, tp]
  | .bool b => by simp [strip, tp]
  | .int i => by simp [strip, tp]
  | .str s => by simp [strip, tp]
  | .dict kvs => by simp [strip, tp]
theorem tp_stripAll : ∀ ds : List PyData, tpAll (stripAll ds) = true
  | [] => rfl
  | d :: ds => by simp only [stripAll, tpAll, Bool.and_eq_true]; exact ⟨tp_strip d, tp_stripAll ds⟩
end
mutual
theorem dpMov {H H' : Hp} (f : ∀ a xs, SqT K H a xs → SqT K H' a xs) : ∀ {v : V} {d : PyData}, Dp K H v d → tp d = true → Dp K H' v d
  | _, _, .non, _ => .non
  | _, _, .bl b, _ => .bl b
  | _, _, .int i, _ => .int i
  | _, _, .str s, _ => .str s
  | _, _, .lst _ _, e => by simp [tp] at e
  | _, _, .tup h q, e => .tup (f _ _ h) (dpAllMov f q (by simpa [tp] using e))
theorem dpAllMov {H H' : Hp} (f : ∀ a xs, SqT K H a xs → SqT K H' a xs) : ∀ {vs : List V} {ds : List PyData}, DpAll K H vs ds → tpAll ds = true → DpAll K H' vs ds
  | _, _, .nil, _ => .nil
  | _, _, .cons a b, e => by
    simp only [tpAll, Bool.and_eq_true] at e
    exact .cons (dpMov f a e.1) (dpAllMov f b e.2)
end
theorem dpEr {H : Hp} {D : Addr} {u : HO} {v : V} {d : PyData} (hD : H D = some u) (hu : NoTup u) (h : Dp K H v d) (e : tp d = true) : Dp K (er H D) v d := dpMov (fun _ _ => tupEr hD hu) h e
theorem dpAllEr {H : Hp} {D : Addr} {u : HO} {vs : List V} {ds : List PyData} (hD : H D = some u) (hu : NoTup u) (h : DpAll K H vs ds) (e : tpAll ds = true) : DpAll K (er H D) vs ds := dpAllMov (fun _ _ => tupEr hD hu) h e
/-- a meal at p -/
structure MlAt (K : PySem.W.Frag) (C : Addr) (H : Hp) (p : Addr) (ys : List Str) (lo hi : Str → Int) (ds es : List PyData) : Prop where
  ex : ∃ (dx qb qw qp : Addr) (kvs : List (Key × V)) (ws ps : List V), H p = some (.ins C dx [("bounds", .ref qb), ("wished", .ref qw), ("places", .ref qp)]) ∧ H qb = some (.dK kvs) ∧ Pr2 K H ys (fun n => .int (lo n)) (fun n => .int (hi n)) kvs ∧ SqT K H qw ws ∧ DpAll K H ws ds ∧ SqT K H qp ps ∧ DpAll K H ps es
theorem MlAt.up {C : Addr} {H H' : Hp} {p : Addr} {ys : List Str} {lo hi : Str → Int} {ds es : List PyData} (h : MlAt K C H p ys lo hi ds es) (s : Same H H') : MlAt K C H' p ys lo hi ds es := by
  obtain ⟨dx, qb, qw, qp, kvs, ws, ps, h1, h2, h3, h4, h5, h6, h7⟩ := h.ex
  exact ⟨dx, qb, qw, qp, kvs, ws, ps, s _ _ h1, s _ _ h2, h3.up s, stUp h4 s, dpAllSame s h5, stUp h6 s, dpAllSame s h7⟩
/-- H2 keeps all of H' but lists, and dicts that were in H -/
def KeepM (H H' H2 : Hp) : Prop := ∀ b u, H' b = some u → (∀ xs, u ≠ .lst xs) → (∀ kvs, u = .dK kvs → H b = none) → H2 b = some u
theorem KeepM.refl {H H' : Hp} : KeepM H H' H' := fun _ _ e _ _ => e
theorem KeepM.tup {H H' H2 : Hp} (k : KeepM H H' H2) {a : Addr} {xs : List V} (h : SqT K H' a xs) : SqT K H2 a xs := by
  rcases h with (h | ⟨o, h⟩) | h
  · exact .inl (.inl (k _ _ h (fun _ z => nomatch z) (fun _ z => nomatch z)))
  · exact .inl (.inr ⟨o, k _ _ h (fun _ z => nomatch z) (fun _ z => nomatch z)⟩)
  · exact .inr h
theorem Pr2.mov {H H' : Hp} {ns : List Str} {f g : Str → V} {kvs : List (Key × V)} (m : ∀ a xs, SqT K H a xs → SqT K H' a xs) (h : Pr2 K H ns f g kvs) : Pr2 K H' ns f g kvs := ⟨h.keys, fun i n e => by
  obtain ⟨a, e1, e2⟩ := h.at_ i n e
  exact ⟨a, e1, m _ _ e2⟩⟩
def spInit (K : PySem.W.Frag) (C : Addr) : Sp := fun vs H Q _ => ∃ (p dx dd a s0 : Addr) (kvs : List (Key × V)) (ks : List Str) (lo hi : Str → Int) (xs : List V) (ds : List PyData) (zs : List V) (es : List PyData), vs = [.ref p, .ref dd, .ref a, .ref s0] ∧ H p = some (.ins C dx []) ∧
  H dd = some (.dK kvs) ∧ PrX K H ks (fun n => .int (lo n)) (fun n => .int (hi n)) kvs ∧ ks.Nodup ∧ (∀ n ∈ ks, (Nm n ∧ PyData.strOk n = true) ∧ 1 ≤ lo n ∧ lo n ≤ hi n) ∧ ks.length < 64 ∧ SqX K (er H p) a xs ∧ DpAll K (er H p) xs ds ∧ ds.length ≤ 1000 ∧ (∀ d ∈ ds, Wsh kvs (strip d)) ∧ SqX K (er H p) s0 zs ∧ DpAll K (er H p) zs es ∧ es.length ≤ 1000 ∧ (∀ d ∈ es, Stn kvs (strip d)) ∧
  ∀ (H' : Hp) (ys : List Str), (∀ H2, KeepM H H' H2 → MlAt K C H2 p ys lo hi (stripAll ds) (stripAll es)) → ys.Perm ks → PyProof.Rows.sortedS ys = true → Same (er H p) (er H' p) → Q .non H'
theorem ok_init (T : Txt K mg A) : FnOk P w K mg base CX0 5 A.a_Meal___init__ A.d_Meal___init__ P_Meal___init__ (spInit K A.a_Meal) := by
  have G_check_dishes : FnOk P w K mg base CX0 3 A.a_check_dishes A.d_check_dishes P_check_dishes (spChkD K) := ok_chkd T
  have G_check_wishes : FnOk P w K mg base CX0 4 A.a_check_wishes A.d_check_wishes P_check_wishes (spChkW K) := ok_chkw T
  have G_check_stations : FnOk P w K mg base CX0 3 A.a_check_stations A.d_check_stations P_check_stations (spChkS K) := ok_chks T
  have G_as_wish : FnOk P w K mg base CX0 2 A.a_as_wish A.d_as_wish P_as_wish (spAsW K) := ok_asw T
  refine T.f_Meal___init__.ok sc_Meal___init__ (fun vs H Q E h => ?_) (fun cdv A' outer s H vs Q E hr h => ?_)
  · obtain ⟨p, dx, dd, a, s0, kvs, ks, lo, hi, xs, ds, zs, es, rfl, _⟩ := h
    rfl
  · obtain ⟨p, dx, dd, a, s0, kvs, ks, lo, hi, xs, ds, zs, es, rfl, hp, hd, hP, kN, hB, hk64, ha, hA, hlen, hW, hs0, hZ, hzlen, hS, k⟩ := h
    refine ⟨_, PSs.nox (pss_cons (ps_expr (pe_call G_check_dishes (hr.mono (by omega)) (by rfl) T.g_check_dishes T.f_check_dishes.kp T.b_check_dishes .nil pass0 (pa_cons (pv 1) pa_nil)))
 (pss_cons (ps_expr (pe_call G_check_wishes (hr.mono (by omega)) (by rfl) T.g_check_wishes T.f_check_wishes.kp T.b_check_wishes .nil pass0 (pa_cons (pv 2) (pa_cons (pv 1) pa_nil))))
 (pss_cons (ps_expr (pe_call G_check_stations (hr.mono (by omega)) (by rfl) T.g_check_stations T.f_check_stations.kp T.b_check_stations .nil pass0 (pa_cons (pv 3) (pa_cons (pv 1) pa_nil))))
 (pss_cons (ps_fld (pv 0) (pe_dc (own := [("name", 4)]) (g := gName 4) (by rfl) sc_Meal___init__.nd (pi_list (pe_callB (call_sortedD rfl) (by rfl) T.sorted (by decide +kernel) (pa_cons (pv 1) pa_nil))) (blkOk_by (N := N_Meal___init__) (sc := defScope s_Meal___init__) (by decide +kernel)) (fun _ _ _ _ _ => pg_name (i := 4) sc_Meal___init__.nd rfl (Or.inl rfl)) (fun _ _ _ _ _ => pts_nil) (fun _ _ _ _ _ => (pv 4)) (fun _ _ _ _ _ => (pe_callTy (tupOf (K := K) rfl) (by rfl) T.tuple (by decide +kernel) (pa_cons (pe_dget (hu_of hr) (pv 1) (pv 4) (fun _ _ => rfl)) pa_nil)))) rfl)
 (pss_cons (ps_fld (pv 0) (pe_callTy call_tuple_of (by rfl) T.tuple (by decide +kernel) (pa_cons (pe_lc (own := [("wish", 5)]) (g := gName 5) (by rfl) sc_Meal___init__.nd (EnT.pi_or (pi_list (pv 2)) (pi_tup (pv 2))) (blkOk_by (N := N_Meal___init__) (sc := defScope s_Meal___init__) (by decide +kernel)) (fun _ _ _ _ _ => pg_name (i := 5) sc_Meal___init__.nd rfl (Or.inl rfl)) (fun _ _ _ _ _ => pts_nil) (fun _ _ _ _ _ => (pe_call G_as_wish (hr.mono (by omega)) (by rfl) T.g_as_wish T.f_as_wish.kp T.b_as_wish .nil pass0 (pa_cons (pv 5) pa_nil)))) pa_nil)) rfl)
 (pss_one (ps_fld (pv 0) (pe_callTy call_tuple_of (by rfl) T.tuple (by decide +kernel) (pa_cons (pe_lc (own := [("station", 6)]) (g := gName 6) (by rfl) sc_Meal___init__.nd (EnT.pi_or (pi_list (pv 3)) (pi_tup (pv 3))) (blkOk_by (N := N_Meal___init__) (sc := defScope s_Meal___init__) (by decide +kernel)) (fun _ _ _ _ _ => pg_name (i := 6) sc_Meal___init__.nd rfl (Or.inl rfl)) (fun _ _ _ _ _ => pts_nil) (fun _ _ _ _ _ => (pe_callTy (tupOf (K := K) rfl) (by rfl) T.tuple (by decide +kernel) (pa_cons (pv 6) pa_nil)))) pa_nil)) rfl))))))), ?_⟩
    have hks := hP.keys
    have hO : DOk K (er H dd) kvs := ⟨by rw [hks]; exact inr_nd kN, fun i k v e => by
      obtain ⟨hi1, b, rfl, rfl, e2⟩ := hP.get e
      obtain ⟨⟨q1, q2⟩, q3, q4⟩ := hB _ (List.getElem_mem hi1)
      exact ⟨_, b, _, _, rfl, q1, q2, rfl, sxEr hd (noSq_dK _) e2, q3, q4⟩⟩
    have npd : dd ≠ p := ne_of hd hp (fun z => nomatch z)
    refine ⟨_, rfl, dd, kvs, rfl, hd, hO, fun H1 s1 => ?_⟩
    refine ⟨_, rfl, _, rfl, a, dd, xs, ds, kvs, rfl, sxUp ha ((er_same _ _).trans s1), dpAllSame ((er_same _ _).trans s1) hA, hW, .inl (s1 _ _ hd), fun H2 s2 => ?_⟩
    refine ⟨_, rfl, _, rfl, s0, dd, zs, es, kvs, rfl, sxUp hs0 (((er_same _ _).trans s1).trans s2), dpAllSame (((er_same _ _).trans s1).trans s2) hZ, hS, .inl ((s1.trans s2) _ _ hd), fun H3 s3 => ?_⟩
    have S3 : Same H H3 := (s1.trans s2).trans s3
    have hd3 := S3 _ _ hd
    have hp3 := S3 _ _ hp
    -- self.bounds
    refine ⟨_, rfl, dd, kvs, ks, rfl, .inl hd3, hks, hk64, fun ys q hperm hsort hq => ?_⟩
    have yN : ys.Nodup := hperm.nodup_iff.mpr kN
    refine ⟨q, rfl, ⟨_, SqL.of upd_same⟩, fun D hD => fillD walk_list (fun i H' => Same (upd H3 q (.lst (ys.map V.str))) H' ∧ ∃ kk, H' D = some (.dK kk) ∧ Pr2 K H' (ys.take i) (fun n => .int (lo n)) (fun n => .int (hi n)) kk) ⟨Same.new hD, [], upd_same, Pr2.nil⟩ (fun i H' _ h => SqL.of (h.1 _ _ upd_same)) ?_ (fun H4 h4 => ?_)⟩
    · rintro i x H' H'' hi1 ⟨s4, kk, hkk, hkl⟩ ⟨rfl, hx⟩
      obtain ⟨hi1, rfl⟩ := str_at hx
      have hm : ys[i] ∈ ks := hperm.mem_iff.mp (List.getElem_mem hi1)
      obtain ⟨b, hv, hb⟩ := hP.val kN hm
      have S4 : Same H H'' := S3.trans ((Same.new hq).trans s4)
      have hyl : i < 64 := by have := hperm.length_eq; omega
      have hkn : (Sum.inr ys[i] : Key) ∉ kk.map (·.1) := by
        rw [hkl.keys]
        intro m
        obtain ⟨z, hz, ez⟩ := List.mem_map.mp m
        exact not_in_take yN hi1 (by rw [← Sum.inr.inj ez]; exact hz)
      have e1 : ys.take (i + 1) = ys.take i ++ [ys[i]] := by rw [List.take_succ, List.getElem?_eq_getElem hi1]; rfl
      have fin : ∀ r H5, Same H'' H5 → SqT K H5 r [.int (lo ys[i]), .int (hi ys[i])] → Same (upd H3 q (.lst (ys.map V.str))) (upd H5 D (.dK (putK kk (.inr ys[i]) (.ref r)))) ∧ ∃ k2, upd H5 D (.dK (putK kk (.inr ys[i]) (.ref r))) D = some (.dK k2) ∧ Pr2 K (upd H5 D (.dK (putK kk (.inr ys[i]) (.ref r)))) (ys.take (i + 1)) (fun n => .int (lo n)) (fun n => .int (hi n)) k2 := fun r H5 s5 hr5 => by
        refine ⟨fun c u e => by rw [upd_ne (ne_of_none e hD)]; exact s5 _ _ (s4 _ _ e), ?_⟩
        have hk5 := s5 _ _ hkk
        rw [put_new _ _ _ hkn]
        refine ⟨_, upd_same, ?_⟩
        rw [e1]
        exact ((hkl.up s5).set hk5 (noTup_dK _)).snoc (tupSet hk5 (noTup_dK _) hr5)
      have fl : kk.length < sizeLine := by
        rw [hkl.len, List.length_take]
        exact Nat.lt_of_le_of_lt (show min i _ ≤ 64 by omega) (by decide)
      refine ⟨rfl, _, rfl, _, rfl, _, rfl, dd, .ref b, rfl, .inl ⟨kvs, .inr ys[i], .inl (S4 _ _ hd), rfl, hv.symm⟩, b, [.int (lo ys[i]), .int (hi ys[i])], rfl, ?_⟩
      rcases hb with hb | hb
      · exact .inl ⟨sqUp hb S4, fun l nl => ⟨kk, .inr ys[i], rfl, Same.new nl _ _ hkk, fl, fin l _ (Same.new nl) (SqT.of upd_same)⟩⟩
      · exact .inr ⟨stUp hb S4, kk, .inr ys[i], rfl, hkk, fl, fin b _ (Same.refl _) (stUp hb S4)⟩
    · obtain ⟨s4, kk, hkk, hkl⟩ := h4
      rw [List.length_map, List.take_length] at hkl
      have S4 : Same H H4 := S3.trans ((Same.new hq).trans s4)
      have hp4 := S4 _ _ hp
      have nDp : D ≠ p := fun e => by rw [e, hp4] at hkk; cases hkk
      have fD : H D = none := S3.free ((Same.new hq).free hD)
      refine ⟨_, rfl, p, A.a_Meal, dx, _, rfl, hp4, T.cl_M, T.nB, by decide, ?_⟩
      have F4 : Same (er H4 p) (er (upd H4 p (.ins A.a_Meal dx (putF "bounds" (.ref D) []))) p) := by rw [er_upd]; exact Same.refl _
      have E4 : Same (er H p) (er (upd H4 p (.ins A.a_Meal dx (putF "bounds" (.ref D) []))) p) := by rw [er_upd]; exact er_mono S4
      generalize hH5 : upd H4 p (.ins A.a_Meal dx (putF "bounds" (.ref D) [])) = H5 at E4 F4 ⊢
      have hp5 : H5 p = some (.ins A.a_Meal dx (putF "bounds" (.ref D) [])) := by rw [← hH5]; exact upd_same
      have B5 : Same (er H p) H5 := E4.trans (er_same _ _)
      -- self.wished
      refine seq_or ha B5 rfl fun J G wk hG => fun D2 hD2 => lc_it wk (fun i H' => Grow K D2 H5 H' (stripAll (ds.take i))) (Grow.start hD2) (fun i H' _ g => hG H' (B5.trans (g.same.trans (er_same _ _)))) ?_ (fun H6 g => ?_)
      · rintro i x H' H'' hi g ⟨rfl, hx⟩
        obtain ⟨d, hd1, hd2⟩ := dpGet hA hx
        obtain ⟨acc, hac, hAc⟩ := id g.ex
        have hal := dpLen hAc
        rw [stripAll_map, List.length_map] at hal
        have hil : i < ds.length := (List.getElem?_eq_some_iff.mp hd1).1
        have B6 := B5.trans (g.same.trans (er_same _ _))
        refine ⟨rfl, _, rfl, x, d, kvs, rfl, dpSame B6 hd2, hW d (List.mem_of_getElem? hd1), fun r H7 s7 hr7 => ?_⟩
        refine ⟨acc, s7 _ _ hac, Nat.lt_of_le_of_lt (show acc.length ≤ 1000 by rw [hal, List.length_take]; omega) (by decide), ?_⟩
        have e1 : stripAll (ds.take (i + 1)) = stripAll (ds.take i) ++ [strip d] := by rw [stripAll_map, stripAll_map, List.take_succ, hd1, List.map_append]; rfl
        rw [e1]
        exact (g.up s7).app (s7 _ _ hac) (dpEr (s7 _ _ hac) (noTup_lst _) hr7 (tp_strip d))
      · rw [dpLen hA, List.take_length] at g
        obtain ⟨acc, hac, hAc⟩ := id g.ex
        refine ⟨D2, _, rfl, .inl ⟨SqL.of hac, fun t ht => ?_⟩⟩
        have S6 : Same H5 (upd H6 t (.tup acc)) := (g.same.trans (er_same _ _)).trans (Same.new ht)
        have A6 : DpAll K (upd H6 t (.tup acc)) acc (stripAll ds) := dpAllSame ((er_same _ _).trans (Same.new ht)) hAc
        refine ⟨_, rfl, p, A.a_Meal, dx, _, rfl, S6 _ _ hp5, T.cl_M, T.nW, Nat.lt_of_le_of_lt (putF_len _ _ _) (by decide), ?_⟩
        have A7 : DpAll K (er (upd H6 t (.tup acc)) p) acc (stripAll ds) := dpAllEr (S6 _ _ hp5) (noTup_ins _ _ _) A6 (tp_stripAll ds)
        have q7 : SqT K (er (upd H6 t (.tup acc)) p) t acc := tupEr (S6 _ _ hp5) (noTup_ins _ _ _) (SqT.of upd_same)
        have E7 : Same (er H p) (er (upd H6 t (.tup acc)) p) := E4.trans (er_mono S6)
        have F7 : Same (er H4 p) (er (upd H6 t (.tup acc)) p) := F4.trans (er_mono S6)
        generalize upd H6 t (.tup acc) = H7 at A7 q7 E7 F7 ⊢
        have A8 : DpAll K (er (upd H7 p (.ins A.a_Meal dx (putF "wished" (.ref t) (putF "bounds" (.ref D) [])))) p) acc (stripAll ds) := by rw [er_upd]; exact A7
        have q8 : SqT K (er (upd H7 p (.ins A.a_Meal dx (putF "wished" (.ref t) (putF "bounds" (.ref D) [])))) p) t acc := by rw [er_upd]; exact q7
        have E8 : Same (er H p) (er (upd H7 p (.ins A.a_Meal dx (putF "wished" (.ref t) (putF "bounds" (.ref D) [])))) p) := by rw [er_upd]; exact E7
        have F8 : Same (er H4 p) (er (upd H7 p (.ins A.a_Meal dx (putF "wished" (.ref t) (putF "bounds" (.ref D) [])))) p) := by rw [er_upd]; exact F7
        generalize hH8 : upd H7 p (.ins A.a_Meal dx (putF "wished" (.ref t) (putF "bounds" (.ref D) []))) = H8 at A8 q8 E8 F8 ⊢
        have hp8 : H8 p = some (.ins A.a_Meal dx (putF "wished" (.ref t) (putF "bounds" (.ref D) []))) := by rw [← hH8]; exact upd_same
        have B8 : Same (er H p) H8 := E8.trans (er_same _ _)
        -- self.places
        refine seq_or hs0 B8 rfl fun J G wk hG => fun D3 hD3 => lc_it wk (fun i H' => Grow K D3 H8 H' (stripAll (es.take i))) (Grow.start hD3) (fun i H' _ g => hG H' (B8.trans (g.same.trans (er_same _ _)))) ?_ (fun H9 g9 => ?_)
        · rintro i x H' H'' hi g ⟨rfl, hx⟩
          obtain ⟨d, hd1, hd2⟩ := dpGet hZ hx
          obtain ⟨acc2, hac2, hAc2⟩ := id g.ex
          have hal := dpLen hAc2
          rw [stripAll_map, List.length_map] at hal
          have hil : i < es.length := (List.getElem?_eq_some_iff.mp hd1).1
          have B9 := B8.trans (g.same.trans (er_same _ _))
          obtain ⟨ss, ez, _⟩ := hS d (List.mem_of_getElem? hd1)
          obtain ⟨b, vs2, ds2, rfl, hq2, hA2, e2, _, _⟩ := dp_seq (dpSame B9 hd2) ez
          obtain rfl := dpAll_strs hA2 e2
          have e1 : stripAll (es.take (i + 1)) = stripAll (es.take i) ++ [strip d] := by rw [stripAll_map, stripAll_map, List.take_succ, hd1, List.map_append]; rfl
          have fin : ∀ r H10, Same H'' H10 → SqT K H10 r (ss.map V.str) → ∃ acc, H10 D3 = some (.lst acc) ∧ acc.length < sizeLine ∧ Grow K D3 H8 (upd H10 D3 (.lst (acc ++ [.ref r]))) (stripAll (es.take (i + 1))) := fun r H10 s10 hr10 => by
            refine ⟨acc2, s10 _ _ hac2, Nat.lt_of_le_of_lt (show acc2.length ≤ 1000 by rw [hal, List.length_take]; omega) (by decide), ?_⟩
            rw [e1, ez]
            exact (g.up s10).app (s10 _ _ hac2) (.tup (tupEr (s10 _ _ hac2) (noTup_lst _) hr10) (dpStrs ss))
          refine ⟨rfl, _, rfl, b, ss.map V.str, rfl, ?_⟩
          rcases hq2 with hq2 | hq2
          · exact .inl ⟨hq2, fun l nl => fin l _ (Same.new nl) (SqT.of upd_same)⟩
          · exact .inr ⟨hq2, fin b _ (Same.refl _) hq2⟩
        · rw [dpLen hZ, List.take_length] at g9
          obtain ⟨acc3, hac3, hAc3⟩ := id g9.ex
          refine ⟨D3, _, rfl, .inl ⟨SqL.of hac3, fun t2 ht2 => ?_⟩⟩
          have S10 : Same H8 (upd H9 t2 (.tup acc3)) := (g9.same.trans (er_same _ _)).trans (Same.new ht2)
          have A10 : DpAll K (upd H9 t2 (.tup acc3)) acc3 (stripAll es) := dpAllSame ((er_same _ _).trans (Same.new ht2)) hAc3
          refine ⟨_, rfl, p, A.a_Meal, dx, _, rfl, S10 _ _ hp8, T.cl_M, T.nP, Nat.lt_of_le_of_lt (putF_len _ _ _) (Nat.lt_of_le_of_lt (Nat.succ_le_succ (putF_len _ _ _)) (by decide)), ?_⟩
          have A11 : DpAll K (er (upd H9 t2 (.tup acc3)) p) acc3 (stripAll es) := dpAllEr (S10 _ _ hp8) (noTup_ins _ _ _) A10 (tp_stripAll es)
          have q11 : SqT K (er (upd H9 t2 (.tup acc3)) p) t2 acc3 := tupEr (S10 _ _ hp8) (noTup_ins _ _ _) (SqT.of upd_same)
          have F12 : Same (er H4 p) (er (upd (upd H9 t2 (.tup acc3)) p (.ins A.a_Meal dx (putF "places" (.ref t2) (putF "wished" (.ref t) (putF "bounds" (.ref D) []))))) p) := by rw [er_upd]; exact F8.trans (er_mono S10)
          have E12 : Same (er H p) (er (upd (upd H9 t2 (.tup acc3)) p (.ins A.a_Meal dx (putF "places" (.ref t2) (putF "wished" (.ref t) (putF "bounds" (.ref D) []))))) p) := by rw [er_upd]; exact E8.trans (er_mono S10)
          have A12 : DpAll K (er (upd (upd H9 t2 (.tup acc3)) p (.ins A.a_Meal dx (putF "places" (.ref t2) (putF "wished" (.ref t) (putF "bounds" (.ref D) []))))) p) acc3 (stripAll es) := by rw [er_upd]; exact A11
          have q12 : SqT K (er (upd (upd H9 t2 (.tup acc3)) p (.ins A.a_Meal dx (putF "places" (.ref t2) (putF "wished" (.ref t) (putF "bounds" (.ref D) []))))) p) t2 acc3 := by rw [er_upd]; exact q11
          have A13 : DpAll K (er (upd (upd H9 t2 (.tup acc3)) p (.ins A.a_Meal dx (putF "places" (.ref t2) (putF "wished" (.ref t) (putF "bounds" (.ref D) []))))) p) acc (stripAll ds) := by rw [er_upd]; exact dpAllSame (er_mono S10) A8
          have q13 : SqT K (er (upd (upd H9 t2 (.tup acc3)) p (.ins A.a_Meal dx (putF "places" (.ref t2) (putF "wished" (.ref t) (putF "bounds" (.ref D) []))))) p) t acc := by rw [er_upd]; exact stUp q8 (er_mono S10)
          have hp12 : upd (upd H9 t2 (.tup acc3)) p (.ins A.a_Meal dx (putF "places" (.ref t2) (putF "wished" (.ref t) (putF "bounds" (.ref D) [])))) p = some (.ins A.a_Meal dx [("bounds", .ref D), ("wished", .ref t), ("places", .ref t2)]) := by rw [upd_same, flds3]
          generalize upd (upd H9 t2 (.tup acc3)) p (.ins A.a_Meal dx (putF "places" (.ref t2) (putF "wished" (.ref t) (putF "bounds" (.ref D) [])))) = H12 at F12 E12 A12 q12 A13 q13 hp12 ⊢
          have oS : Same (er H12 p) H12 := er_same _ _
          refine k _ ys (fun H20 km => ⟨dx, D, t, t2, kk, acc, acc3, km _ _ hp12 (fun _ z => nomatch z) (fun _ z => nomatch z), km _ _ (oS _ _ (F12 _ _ (er_of nDp hkk))) (fun _ z => nomatch z) (fun _ _ => fD), Pr2.mov (fun _ _ => km.tup) (((hkl.er hp4 (noTup_ins _ _ _)).up F12).up oS), km.tup (stUp q13 oS), dpAllMov (fun _ _ => km.tup) (dpAllSame oS A13) (tp_stripAll ds), km.tup (stUp q12 oS), dpAllMov (fun _ _ => km.tup) (dpAllSame oS A12) (tp_stripAll es)⟩) hperm hsort E12
end
end K5
set_option Elab.async false
set_option linter.all false
set_option maxRecDepth 100000
set_option maxHeartbeats 4000000
namespace K5
open PySem L2
local macro_rules | `(tactic| walk_at "rd1") => `(tactic| first
  | refine ⟨_, _, rfl, rfl, ?_⟩
  | refine ⟨_, _, _, _, rfl, rfl, SqL.of (by assumption), rfl, ?_⟩
  | refine ⟨_, _, _, _, rfl, rfl, (by assumption), rfl, ?_⟩
  | refine .inl ⟨_, rfl, ?_⟩
  | refine ⟨_, rfl, ?_⟩
  | refine ⟨(by unfold CMul; omega), ?_⟩
  | refine ⟨(by unfold CPow; omega), ?_⟩
  | refine ⟨(by (try dsimp only); omega), ?_⟩
  | refine ⟨(by unfold CDiv; omega), ?_⟩
  | fail "rd1")
local macro_rules | `(tactic| walk_at "rd") => `(tactic| repeat' (walk_at "rd1"))
section
variable {P : Program} {w : World} {K : PySem.W.Frag} {mg : Str → Option Value} {base : Heap} {A : Ad}

def spMDishes (K : PySem.W.Frag) (C : Addr) : Sp := fun vs H Q _ => ∃ (p : Addr) (ys : List Str) (lo hi : Str → Int) (ds es : List PyData), vs = [.ref p] ∧ MlAt K C H p ys lo hi ds es ∧
  ∀ l H' kvs, H l = none → Same H H' → H' l = some (.dK kvs) → Pr2 K H' ys (fun n => .int (lo n)) (fun n => .int (hi n)) kvs → Q (.ref l) H'
theorem ok_mdishes (T : Txt K mg A) : FnOk P w K mg base CX0 1 A.a_Meal_dishes A.d_Meal_dishes P_Meal_dishes (spMDishes K A.a_Meal) := by
  refine T.f_Meal_dishes.ok sc_Meal_dishes (fun vs H Q E h => ?_) (fun cdv A' outer s H vs Q E hr h => ?_)
  · obtain ⟨p, ys, lo, hi, ds, es, rfl, _⟩ := h
    rfl
  · obtain ⟨p, ys, lo, hi, ds, es, rfl, M, k⟩ := h
    obtain ⟨dx, qb, qw, qp, kvs, ws, ps, hp, hb, hP, hw, hA, hq, hZ⟩ := M.ex
    refine ⟨_, (pss_one (ps_ret (pe_callTy call_dictD (by rfl) T.dict (by decide +kernel) (pa_cons (pe_fld (pv 0) rfl) pa_nil)))), ?_⟩
    exact ⟨_, rfl, p, A.a_Meal, dx, _, _, rfl, hp, T.cl_M, T.nB, by rfl, qb, _, rfl, .inl hb, fun l hl => k l _ kvs hl (Same.new hl) upd_same (hP.up (Same.new hl))⟩
def spMWishes (K : PySem.W.Frag) (C : Addr) : Sp := fun vs H Q _ => ∃ (p : Addr) (ys : List Str) (lo hi : Str → Int) (ds es : List PyData), vs = [.ref p] ∧ MlAt K C H p ys lo hi ds es ∧
  ∀ l ws, H l = none → DpAll K H ws ds → Q (.ref l) (upd H l (.lst ws))
theorem ok_mwishes (T : Txt K mg A) : FnOk P w K mg base CX0 1 A.a_Meal_wishes A.d_Meal_wishes P_Meal_wishes (spMWishes K A.a_Meal) := by
  refine T.f_Meal_wishes.ok sc_Meal_wishes (fun vs H Q E h => ?_) (fun cdv A' outer s H vs Q E hr h => ?_)
  · obtain ⟨p, ys, lo, hi, ds, es, rfl, _⟩ := h
    rfl
  · obtain ⟨p, ys, lo, hi, ds, es, rfl, M, k⟩ := h
    obtain ⟨dx, qb, qw, qp, kvs, ws, ps, hp, hb, hP, hw, hA, hq, hZ⟩ := M.ex
    refine ⟨_, (pss_one (ps_ret (pe_callTy call_list_of (by rfl) T.list (by decide +kernel) (pa_cons (pe_fld (pv 0) rfl) pa_nil)))), ?_⟩
    exact ⟨_, rfl, p, A.a_Meal, dx, _, _, rfl, hp, T.cl_M, T.nW, by rfl, qw, ws, rfl, .inr hw, fun l hl => k l ws hl hA⟩
def spMStations (K : PySem.W.Frag) (C : Addr) : Sp := fun vs H Q _ => ∃ (p : Addr) (ys : List Str) (lo hi : Str → Int) (ds es : List PyData), vs = [.ref p] ∧ MlAt K C H p ys lo hi ds es ∧
  ∀ l ps, H l = none → DpAll K H ps es → Q (.ref l) (upd H l (.lst ps))
theorem ok_mstations (T : Txt K mg A) : FnOk P w K mg base CX0 1 A.a_Meal_stations A.d_Meal_stations P_Meal_stations (spMStations K A.a_Meal) := by
  refine T.f_Meal_stations.ok sc_Meal_stations (fun vs H Q E h => ?_) (fun cdv A' outer s H vs Q E hr h => ?_)
  · obtain ⟨p, ys, lo, hi, ds, es, rfl, _⟩ := h
    rfl
  · obtain ⟨p, ys, lo, hi, ds, es, rfl, M, k⟩ := h
    obtain ⟨dx, qb, qw, qp, kvs, ws, ps, hp, hb, hP, hw, hA, hq, hZ⟩ := M.ex
    refine ⟨_, (pss_one (ps_ret (pe_callTy call_list_of (by rfl) T.list (by decide +kernel) (pa_cons (pe_fld (pv 0) rfl) pa_nil)))), ?_⟩
    exact ⟨_, rfl, p, A.a_Meal, dx, _, _, rfl, hp, T.cl_M, T.nP, by rfl, qp, ps, rfl, .inr hq, fun l hl => k l ps hl hZ⟩
/-! ### meal == x -/
def bD (ys : List Str) (lo hi : Str → Int) : List (Key × PyData) := ys.map fun n => (.inr n, .tuple [.int (lo n), .int (hi n)])
/-- two meals compared -/
def eqMl (ys ys2 : List Str) (lo hi lo2 hi2 : Str → Int) (ds ds2 es es2 : List PyData) : Bool := (ys.length == ys2.length && Own.eqKD (bD ys lo hi) (bD ys2 lo2 hi2)) && PyData.eqvAll ds ds2 && PyData.eqvAll es es2
theorem bD_ok {H : Hp} : ∀ {ys : List Str} {lo hi : Str → Int} {kvs : List (Key × V)}, Pr2 K H ys (fun n => .int (lo n)) (fun n => .int (hi n)) kvs → Paired (Own.DVal K H) kvs (bD ys lo hi) := fun {ys lo hi kvs} h =>
  Own.paired_ix (by rw [h.len]; unfold bD; rw [List.length_map]) fun i y e => by
    unfold bD at e
    rw [List.getElem?_map] at e
    cases e1 : ys[i]? with
    | none => rw [e1] at e; cases e
    | some n =>
      rw [e1] at e
      cases e
      obtain ⟨a, e2, e3⟩ := h.at_ i n e1
      refine ⟨_, e2, rfl, .tup e3 (.cons (.int _) (.cons (.int _) .nil)), ?_, ?_⟩
      · simp [SeqAt.shaped, PyData.canLay0, PyData.canLayAll0, PyData.depth, PyData.depthAll]
      · simp [PyData.depth, PyData.depthAll]
def spMEq (K : PySem.W.Frag) (C : Addr) : Sp := fun vs H Q _ => ∃ (p : Addr) (ys : List Str) (lo hi : Str → Int) (ds es : List PyData) (y : V), vs = [.ref p, y] ∧ MlAt K C H p ys lo hi ds es ∧ SeqAt.shaped (.tuple ds) = true ∧ SeqAt.shaped (.tuple es) = true ∧
  ((∃ p2 ys2 lo2 hi2 ds2 es2, y = .ref p2 ∧ MlAt K C H p2 ys2 lo2 hi2 ds2 es2 ∧ SeqAt.shaped (.tuple ds2) = true ∧ SeqAt.shaped (.tuple es2) = true ∧ Q (.bl (eqMl ys ys2 lo hi lo2 hi2 ds ds2 es es2)) H) ∨ (y = .non ∧ Q (.bl false) H) ∨ (∃ i, y = .int i ∧ Q (.bl false) H) ∨ ∃ d kvs, y = .ref d ∧ H d = some (.dK kvs) ∧ Q (.bl false) H)
theorem ok_meq (T : Txt K mg A) : FnOk P w K mg base CX0 1 A.a_Meal___eq__ A.d_Meal___eq__ P_Meal___eq__ (spMEq K A.a_Meal) := by
  refine T.f_Meal___eq__.ok sc_Meal___eq__ (fun vs H Q E h => ?_) (fun cdv A' outer s H vs Q E hr h => ?_)
  · obtain ⟨p, ys, lo, hi, ds, es, y, rfl, _⟩ := h
    rfl
  · obtain ⟨p, ys, lo, hi, ds, es, y, rfl, M, sd, se, h⟩ := h
    obtain ⟨dx, qb, qw, qp, kvs, ws, ps, hp, hb, hP, hw, hA, hq, hZ⟩ := M.ex
    refine ⟨_, (pss_one (ps_ret (pe_and (pe_callB call_isi (by rfl) T.isinstance (by decide +kernel) (pa_cons (pv 1) (pa_cons (pe_glob (v := .ref A.a_Meal) (by rfl) T.g_Meal rfl) pa_nil))) (pe_and (pe_cmpR (Own.op_eqDD hr.units) (pe_fld (pv 0) rfl) (pe_fld (pv 1) rfl) (nomark _)) (pe_and (pe_cmpR (op_eqD hr.units) (pe_fld (pv 0) rfl) (pe_fld (pv 1) rfl) (nomark _)) (pe_one (pe_cmpR (op_eqD hr.units) (pe_fld (pv 0) rfl) (pe_fld (pv 1) rfl) (nomark _)))))))), ?_⟩
    rcases h with ⟨p2, ys2, lo2, hi2, ds2, es2, rfl, M2, sd2, se2, k⟩ | ⟨rfl, k⟩ | ⟨i, rfl, k⟩ | ⟨d, kv2, rfl, hd, k⟩
    · obtain ⟨dx2, qb2, qw2, qp2, kvs2, ws2, ps2, hp2, hb2, hP2, hw2, hA2, hq2, hZ2⟩ := M2.ex
      refine ⟨_, rfl, _, _, .ref A.a_Meal, _, true, rfl, .own _, .base (.ins hp2 T.cl_M T.aC T.aG T.aT T.mO), T.kMM, _, rfl, iteT ?_⟩
      refine ⟨_, rfl, p, A.a_Meal, dx, _, _, rfl, hp, T.cl_M, T.nB, rfl, _, rfl, p2, A.a_Meal, dx2, _, _, rfl, hp2, T.cl_M, T.nB, rfl, ?_⟩
      refine ⟨qb, qb2, _, _, _, _, rfl, rfl, hb, hb2, bD_ok hP, bD_ok hP2, ?_⟩
      rw [hP.len, hP2.len]
      refine ⟨_, rfl, ite2 (fun c => ?_) (fun c => ?_)⟩
      · refine ⟨_, rfl, p, A.a_Meal, dx, _, _, rfl, hp, T.cl_M, T.nW, rfl, _, rfl, p2, A.a_Meal, dx2, _, _, rfl, hp2, T.cl_M, T.nW, rfl, ?_⟩
        refine ⟨_, _, .tup hw hA, .tup hw2 hA2, sd, sd2, ?_⟩
        have et : ∀ xs zs : List PyData, PyData.eqv (.tuple xs) (.tuple zs) = PyData.eqvAll xs zs := fun xs zs => by simp [PyData.eqv]
        rw [et]
        refine ⟨_, rfl, ite2 (fun c2 => ?_) (fun c2 => ?_)⟩
        · refine ⟨_, rfl, p, A.a_Meal, dx, _, _, rfl, hp, T.cl_M, T.nP, rfl, _, rfl, p2, A.a_Meal, dx2, _, _, rfl, hp2, T.cl_M, T.nP, rfl, ?_⟩
          refine ⟨_, _, .tup hq hZ, .tup hq2 hZ2, se, se2, ?_⟩
          rw [et]
          have e : eqMl ys ys2 lo hi lo2 hi2 ds ds2 es es2 = PyData.eqvAll es es2 := by unfold eqMl; rw [show _ = true from c, show _ = true from c2, Bool.true_and, Bool.true_and]
          rw [e] at k
          exact k
        · have e : eqMl ys ys2 lo hi lo2 hi2 ds ds2 es es2 = false := by unfold eqMl; rw [eq_false_of_ne_true c2, Bool.and_false, Bool.false_and]
          rw [e] at k
          exact k
      · have e : eqMl ys ys2 lo hi lo2 hi2 ds ds2 es es2 = false := by unfold eqMl; rw [eq_false_of_ne_true c, Bool.false_and, Bool.false_and]
        rw [e] at k
        exact k
    · exact ⟨_, rfl, _, _, .type "NoneType", _, false, rfl, .own _, .base .non, T.kMN, _, rfl, iteF k⟩
    · exact ⟨_, rfl, _, _, .type "int", _, false, rfl, .own _, .base (.int _), T.kMI, _, rfl, iteF k⟩
    · exact ⟨_, rfl, _, _, .type "dict", _, false, rfl, .own _, .base (.dK hd), T.kMD, _, rfl, iteF k⟩
end
end K5
set_option Elab.async false
set_option linter.all false
set_option maxRecDepth 100000
set_option maxHeartbeats 4000000
namespace K5
open PySem L2
local macro_rules | `(tactic| walk_at "rd1") => `(tactic| first
  | refine ⟨_, _, rfl, rfl, ?_⟩
  | refine ⟨_, _, _, _, rfl, rfl, SqL.of (by assumption), rfl, ?_⟩
  | refine ⟨_, _, _, _, rfl, rfl, (by assumption), rfl, ?_⟩
  | refine .inl ⟨_, rfl, ?_⟩
  | refine ⟨_, rfl, ?_⟩
  | refine ⟨(by unfold CMul; omega), ?_⟩
  | refine ⟨(by unfold CPow; omega), ?_⟩
  | refine ⟨(by (try dsimp only); omega), ?_⟩
  | refine ⟨(by unfold CDiv; omega), ?_⟩
  | fail "rd1")
local macro_rules | `(tactic| walk_at "rd") => `(tactic| repeat' (walk_at "rd1"))
section
variable {P : Program} {w : World} {K : PySem.W.Frag} {mg : Str → Option Value} {base : Heap} {A : Ad}

/-! ### loose data: lists told by their places -/
mutual
inductive Lz (H : Hp) : V → PyData → List Addr → Prop
  | str (s : Str) : Lz H (.str s) (.str s) []
  | int (i : Int) : Lz H (.int i) (.int i) []
  | lst {a : Addr} {xs : List V} {ds : List PyData} {L : List Addr} (h : H a = some (.lst xs)) (hA : LzAll H xs ds L) (n : a ∉ L) (l : ds.length ≤ 64) : Lz H (.ref a) (.list ds) (a :: L)
  | tup {a : Addr} {xs : List V} {ds : List PyData} {L : List Addr} (h : H a = some (.tup xs)) (hA : LzAll H xs ds L) (l : ds.length ≤ 64) : Lz H (.ref a) (.tuple ds) L
inductive LzAll (H : Hp) : List V → List PyData → List Addr → Prop
  | nil : LzAll H [] [] []
  | cons {x : V} {xs : List V} {d : PyData} {ds : List PyData} {L1 L2 : List Addr} (h : Lz H x d L1) (t : LzAll H xs ds L2) (n : ∀ a ∈ L1, a ∉ L2) : LzAll H (x :: xs) (d :: ds) (L1 ++ L2)
end
mutual
theorem lzDp {H : Hp} : ∀ {v : V} {d : PyData} {L : List Addr}, Lz H v d L → Dp K H v d
  | _, _, _, .str s => .str s
  | _, _, _, .int i => .int i
  | _, _, _, .lst h hA _ _ => .lst (SqL.of h) (lzAllDp hA)
  | _, _, _, .tup h hA _ => .tup (SqT.of h) (lzAllDp hA)
theorem lzAllDp {H : Hp} : ∀ {vs : List V} {ds : List PyData} {L : List Addr}, LzAll H vs ds L → DpAll K H vs ds
  | _, _, _, .nil => .nil
  | _, _, _, .cons h t _ => .cons (lzDp h) (lzAllDp t)
end
mutual
theorem lzKeep {H H' : Hp} : ∀ {v : V} {d : PyData} {L : List Addr}, Lz H v d L → (∀ b u, H b = some u → (b ∈ L ∨ ∃ xs, u = .tup xs) → H' b = some u) → Lz H' v d L
  | _, _, _, .str s, _ => .str s
  | _, _, _, .int i, _ => .int i
  | _, _, _, .lst h hA n l, f => .lst (f _ _ h (.inl (.head _))) (lzAllKeep hA fun b u e q => f b u e (q.imp_left fun m => .tail _ m)) n l
  | _, _, _, .tup h hA l, f => .tup (f _ _ h (.inr ⟨_, rfl⟩)) (lzAllKeep hA f) l
theorem lzAllKeep {H H' : Hp} : ∀ {vs : List V} {ds : List PyData} {L : List Addr}, LzAll H vs ds L → (∀ b u, H b = some u → (b ∈ L ∨ ∃ xs, u = .tup xs) → H' b = some u) → LzAll H' vs ds L
  | _, _, _, .nil, _ => .nil
  | _, _, _, .cons h t n, f => .cons (lzKeep h fun b u e q => f b u e (q.imp_left fun m => List.mem_append_left _ m)) (lzAllKeep t fun b u e q => f b u e (q.imp_left fun m => List.mem_append_right _ m)) n
end
mutual
theorem lzAt {H : Hp} : ∀ {v : V} {d : PyData} {L : List Addr}, Lz H v d L → ∀ a ∈ L, ∃ xs, H a = some (.lst xs)
  | _, _, _, .str s, _, m => by cases m
  | _, _, _, .int i, _, m => by cases m
  | _, _, _, .lst h hA _ _, b, m => by
    rcases List.mem_cons.mp m with e | m
    · subst e; exact ⟨_, h⟩
    · exact lzAllAt hA b m
  | _, _, _, .tup h hA _, b, m => lzAllAt hA b m
theorem lzAllAt {H : Hp} : ∀ {vs : List V} {ds : List PyData} {L : List Addr}, LzAll H vs ds L → ∀ a ∈ L, ∃ xs, H a = some (.lst xs)
  | _, _, _, .nil, _, m => by cases m
  | _, _, _, .cons h t _, b, m => by
    rcases List.mem_append.mp m with m | m
    · exact lzAt h b m
    · exact lzAllAt t b m
end
theorem lzUp {H H' : Hp} {v : V} {d : PyData} {L : List Addr} (h : Lz H v d L) (s : Same H H') : Lz H' v d L := lzKeep h fun b u e _ => s b u e
theorem lzAllUp {H H' : Hp} {vs : List V} {ds : List PyData} {L : List Addr} (h : LzAll H vs ds L) (s : Same H H') : LzAll H' vs ds L := lzAllKeep h fun b u e _ => s b u e
theorem lzSnoc {H : Hp} {x : V} {d : PyData} {L1 : List Addr} (h : Lz H x d L1) : ∀ {xs : List V} {ds : List PyData} {L : List Addr}, LzAll H xs ds L → (∀ a ∈ L, a ∉ L1) → LzAll H (xs ++ [x]) (ds ++ [d]) (L ++ L1)
  | _, _, _, .nil, _ => by
    have := LzAll.cons h .nil (fun a _ z => by cases z)
    rwa [List.append_nil] at this
  | _, _, _, .cons (L1 := M1) (L2 := M2) g t n, f => by
    rw [List.append_assoc]
    exact .cons g (lzSnoc h t fun a m => f a (List.mem_append_right _ m)) fun a m z => (List.mem_append.mp z).elim (n a m) (f a (List.mem_append_left _ m))
theorem lzLen {H : Hp} : ∀ {vs : List V} {ds : List PyData} {L : List Addr}, LzAll H vs ds L → vs.length = ds.length
  | _, _, _, .nil => rfl
  | _, _, _, .cons _ t _ => congrArg (· + 1) (lzLen t)
/-! tuples, texts, ints -/
mutual
def tq : PyData → Bool
  | .str _ => true
  | .int _ => true
  | .tuple xs => decide (xs.length ≤ 64) && tqAll xs
  | _ => false
def tqAll : List PyData → Bool
  | [] => true
  | d :: ds => tq d && tqAll ds
end
mutual
def cost : PyData → Nat
  | .tuple xs => costAll xs + 1
  | _ => 0
def costAll : List PyData → Nat
  | [] => 0
  | d :: ds => cost d + costAll ds
end
theorem tqAll_mem : ∀ {ds : List PyData}, tqAll ds = true → ∀ d ∈ ds, tq d = true
  | [], _, d, m => by cases m
  | e :: ds, h, d, m => by
    simp only [tqAll, Bool.and_eq_true] at h
    rcases List.mem_cons.mp m with q | m
    · rw [q]; exact h.1
    · exact tqAll_mem h.2 d m
theorem cost_take {ds : List PyData} {i : Nat} {d : PyData} (h : ds[i]? = some d) : costAll (ds.take (i + 1)) = costAll (ds.take i) + cost d := by
  have app : ∀ xs ys : List PyData, costAll (xs ++ ys) = costAll xs + costAll ys := fun xs ys => by
    induction xs with
    | nil => simp [costAll]
    | cons x xs ih => simp only [List.cons_append, costAll, ih]; omega
  rw [List.take_succ, h, app]
  simp [costAll]
theorem cost_le (ds : List PyData) (i : Nat) : costAll (ds.take i) ≤ costAll ds := by
  have : ∀ (ds : List PyData) (i : Nat), costAll (ds.take i) ≤ costAll ds := fun ds => by
    induction ds with
    | nil => intro i; simp
    | cons d ds ih =>
      intro i
      cases i with
      | zero => simp [costAll]
      | succ i =>
        simp only [List.take_succ_cons, costAll]
        exact Nat.add_le_add_left (ih i) _
  exact this ds i
def spLoose (K : PySem.W.Frag) (n : Nat) : Sp := fun vs H Q _ => ∃ (st c : Addr) (v : V) (d : PyData) (b : Int), vs = [.ref st, v] ∧ Sta H st c b ∧ b + (cost d : Int) ≤ 1000000 ∧ Dp K (er H st) v d ∧ tq d = true ∧ d.depth < n ∧
  ∀ r d' L H', Gs st c H H' (b + (cost d : Int)) → Lz (er H' st) r d' L → strip d' = d → (∀ a ∈ L, er H st a = none) → Q r H'
theorem ok_loose (T : Txt K mg A) : ∀ n : Nat, FnOk P w K mg base CX0 (n + 1) A.a__law_loose A.d__law_loose P__law_loose (spLoose K n)
  | 0 => no_fn fun vs H Q E ⟨_, _, _, _, _, _, _, _, _, _, h, _⟩ => absurd h (Nat.not_lt_zero _)
  | n + 1 => by
    have G__law_loose : FnOk P w K mg base CX0 (n + 1) A.a__law_loose A.d__law_loose P__law_loose (spLoose K n) := ok_loose T n
    have G__law_take : FnOk P w K mg base CX0 1 A.a__law_take A.d__law_take P__law_take spTake := ok_take T
    refine T.f__law_loose.ok sc__law_loose (fun vs H Q E h => ?_) (fun cdv A' outer s H vs Q E hr h => ?_)
    · obtain ⟨st, c, v, d, b, rfl, _⟩ := h
      rfl
    · obtain ⟨st, c, v, d, b, rfl, S, hb, hv, ht, hd, k⟩ := h
      refine ⟨_, (pss_cons (ps_if (pt_val (pe_callB call_isiT (by rfl) T.isinstance (by decide +kernel) (pa_cons (pv 1) (pa_cons (pe_tup (pa_cons (pe_bltn (v := .ty "list") (u := .type "list") (by rfl) T.list (by decide +kernel) rfl) (pa_cons (pe_bltn (v := .ty "tuple") (u := .type "tuple") (by rfl) T.tuple (by decide +kernel) rfl) pa_nil))) pa_nil))))
 (pss_cons (ps_setLc (i := 2) (own := [("_law_x", 3)]) (g := gName 3)  (by rfl) sc__law_loose.nd rfl rfl (sw_true rfl rfl rfl (by decide +kernel)) (EnT.pi_or (pi_list (pv 1)) (pi_tup (pv 1))) (blkOk_by (N := N__law_loose) (sc := defScope s__law_loose) (by decide +kernel)) (fun _ _ _ _ _ => pg_name (i := 3) sc__law_loose.nd rfl (Or.inl rfl)) (fun _ _ _ _ _ => pts_nil) (fun _ _ _ _ _ => (pe_call G__law_loose (hr.mono (by omega)) (by rfl) T.g__law_loose T.f__law_loose.kp T.b__law_loose .nil pass0 (pa_cons (pv 0) (pa_cons (pv 3) pa_nil)))))
 (pss_one (ps_ret (pe_ifExp (pt_cmpR op_eq (pe_call G__law_take (hr.mono (by omega)) (by rfl) T.g__law_take T.f__law_take.kp T.b__law_take .nil pass0 (pa_cons (pv 0) (pa_cons pe_int pa_nil))) pe_int (nomark _)) (pv 2) (pe_callTy call_tuple_of (by rfl) T.tuple (by decide +kernel) (pa_cons (pv 2) pa_nil))))))
 pss_nil)
 (pss_one (ps_ret (pv 1)))), ?_⟩
      refine ⟨_, rfl, by show 2 ≤ sizeLine; decide, fun p hp => ?_⟩
      have hv0 := dpSame (er_same H st) hv
      cases hv with
      | str z =>
        refine ⟨_, p, _, _, _, false, rfl, upd_same, .cons (.ty _) (.cons (.ty _) .nil), .base (.str _), kit2 (a := "str") (b := "list") (c := "tuple") (r := false) (s := false) (by decide +kernel) (by decide +kernel), _, rfl, iteF ⟨_, rfl, ?_⟩⟩
        exact k _ _ [] _ ((Gs.of_same S (Same.new hp)).le (by omega) hb) (.str _) (strip_str _) (fun a m => by cases m)
      | int z =>
        refine ⟨_, p, _, _, _, false, rfl, upd_same, .cons (.ty _) (.cons (.ty _) .nil), .base (.int _), kit2 (a := "int") (b := "list") (c := "tuple") (r := false) (s := false) (by decide +kernel) (by decide +kernel), _, rfl, iteF ⟨_, rfl, ?_⟩⟩
        exact k _ _ [] _ ((Gs.of_same S (Same.new hp)).le (by omega) hb) (.int _) (strip_int _) (fun a m => by cases m)
      | non => simp [tq] at ht
      | bl z => simp [tq] at ht
      | lst _ _ => simp [tq] at ht
      | @tup t xs ds ha hA =>
        simp only [tq, Bool.and_eq_true, decide_eq_true_eq] at ht
        have hl : xs.length = ds.length := dpLen hA
        have t0 : SqT K H t xs := stUp ha (er_same _ _)
        have s1 : Same H (upd H p (.tup [.ty "list", .ty "tuple"])) := Same.new hp
        have hpt : upd H p (.tup [.ty "list", .ty "tuple"]) p = some (.tup [.ty "list", .ty "tuple"]) := upd_same
        have g1 := Gs.of_same S s1
        generalize upd H p (.tup [.ty "list", .ty "tuple"]) = H1 at s1 hpt g1 ⊢
        refine ⟨_, p, _, _, _, true, rfl, hpt, .cons (.ty _) (.cons (.ty _) .nil), tyT (stUp t0 s1), kit2 (a := "tuple") (b := "list") (c := "tuple") (r := false) (s := true) (by decide +kernel) (by decide +kernel), _, rfl, iteT ?_⟩
        have A1 : DpAll K (er H1 st) xs ds := dpAllSame g1.same hA
        have ce : (cost (.tuple ds) : Int) = (costAll ds : Int) + 1 := by simp [cost]
        rw [ce] at hb k
        refine seq_or (H0 := er H1 st) (.inr (stUp ha g1.same)) (er_same _ _) rfl fun J Gd wk hG => fun D hD => ?_
        have mD := g1.sta.ne hD
        have eD := er_none (st := st) hD
        refine lc_it wk (fun i H' => ∃ (acc : List V) (es : List PyData) (L : List Addr), er H' st D = some (.lst acc) ∧ LzAll (er (er H' st) D) acc es L ∧ stripAll es = ds.take i ∧ (∀ a ∈ L, er H st a = none) ∧ Gs st c H1 H' (b + (costAll (ds.take i) : Int)))
          ⟨[], [], [], er_of mD upd_same, .nil, rfl, (fun a m => by cases m), by simpa [costAll] using (Gs.refl g1.sta).new hD⟩ (fun i H' _ z => ?_) ?_ (fun H2 z => ?_)
        · obtain ⟨_, _, _, _, _, _, _, g⟩ := z
          exact hG _ (g.same.trans (er_same _ _))
        · rintro i x H' H'' hi ⟨acc, es, L, hD1, hZ, hS, hL, g⟩ ⟨rfl, hx⟩
          obtain ⟨d, hd1, hd2⟩ := dpGet A1 hx
          have hi2 : i < ds.length := (List.getElem?_eq_some_iff.mp hd1).1
          have ct := cost_take hd1
          have cl := cost_le ds (i + 1)
          have dd : d.depth < n := by
            have q := PyData.depth_le_depthAll ds d (List.mem_of_getElem? hd1)
            have q2 : PyData.depth (.tuple ds) < n + 1 := hd
            simp only [PyData.depth] at q2
            omega
          refine ⟨rfl, _, rfl, _, rfl, st, c, x, d, _, rfl, g.sta, by omega, dpSame g.same hd2, tqAll_mem ht.2 d (List.mem_of_getElem? hd1), dd, fun r d' L1 H2 g2 Z1 S1 F1 => ?_⟩
          have hD2 := g2.same _ _ hD1
          have Z := lzAllUp hZ (er_mono g2.same)
          have nD : D ∉ L1 := fun m => by rw [F1 _ m] at hD1; cases hD1
          have Z1 : Lz (er (er H2 st) D) r d' L1 := lzKeep Z1 fun b u e q => er_of (fun z => by
            rcases q with m | ⟨ys, rfl⟩
            · exact nD (by rw [← z]; exact m)
            · rw [z, hD2] at e; cases e) e
          have old : ∀ a ∈ L, a ∉ L1 := fun a m m1 => by
            obtain ⟨ys, e⟩ := lzAllAt hZ a m
            have e2 := (er_some e).2
            rw [F1 a m1] at e2; cases e2
          have al : acc.length ≤ 64 := by
            have q := lzLen hZ
            have q2 := congrArg List.length hS
            rw [stripAll_map, List.length_map, List.length_take] at q2
            omega
          refine ⟨acc, (er_same _ _) _ _ hD2, Nat.lt_of_le_of_lt al (by decide), acc ++ [r], es ++ [d'], L ++ L1, ?_, ?_, ?_, fun a m => ?_, ?_⟩
          · rw [er_updp mD, upd_same]
          · rw [er_updp mD, er_upd]
            exact lzSnoc Z1 Z old
          · rw [stripAll_map, List.map_append, ← stripAll_map, hS, List.take_succ, hd1, List.map_cons, List.map_nil, S1]; rfl
          · rcases List.mem_append.mp m with m | m
            · exact hL a m
            · exact (g1.same.trans g.same).free (F1 a m)
          · exact ((g.trans g2).set g1.sta.hc eD mD).le (by omega) (by omega)
        · obtain ⟨acc, es, L, hD1, hZ, hS, hL, g⟩ := z
          rw [hl, List.take_length] at hS g
          have nDL : D ∉ L := fun m => by
            obtain ⟨ys, e⟩ := lzAllAt hZ D m
            exact (er_some e).1 rfl
          have fD : er H st D = none := g1.same.free eD
          have lE : es.length ≤ 64 := by
            have q2 := congrArg List.length hS
            rw [stripAll_map, List.length_map] at q2
            omega
          have sS : strip (.list es) = .tuple ds ∧ strip (.tuple es) = .tuple ds := by simp [strip, hS]
          refine ⟨_, rfl, st, c, 2, _, rfl, g.sta, by omega, by omega, by omega, fun r o hr0 hr1 S3 => ?_⟩
          have g3 := g1.trans (g.trans (Gs.of_upd S3))
          rw [← er_upd H2 st o] at hD1 hZ
          generalize upd H2 st o = H3 at S3 g3 hD1 hZ ⊢
          have hZ3 : LzAll (er H3 st) acc es L := lzAllUp hZ (er_same _ _)
          refine ⟨rfl, _, rfl, ite2 (fun q => ?_) (fun q => ?_)⟩
          · exact ⟨_, rfl, k _ (.list es) (D :: L) H3 (g3.le (by omega) (by omega)) (.lst hD1 hZ3 nDL lE) sS.1 fun a m => (List.mem_cons.mp m).elim (fun e => by rw [e]; exact fD) (hL a)⟩
          · refine ⟨_, rfl, D, _, rfl, .inl ⟨SqL.of ((er_same _ _) _ _ hD1), fun l nl => ?_⟩⟩
            have ml := S3.ne nl
            exact k _ (.tuple es) L _ ((g3.new nl).le (by omega) (by omega)) (.tup (er_of ml upd_same) (lzAllUp hZ3 (er_mono (Same.new nl))) lE) sS.2 hL
end
end K5
set_option Elab.async false
set_option linter.all false
set_option maxRecDepth 100000
set_option maxHeartbeats 4000000
namespace K5
open PySem L2
local macro_rules | `(tactic| walk_at "rd1") => `(tactic| first
  | refine ⟨_, _, rfl, rfl, ?_⟩
  | refine ⟨_, _, _, _, rfl, rfl, SqL.of (by assumption), rfl, ?_⟩
  | refine ⟨_, _, _, _, rfl, rfl, (by assumption), rfl, ?_⟩
  | refine .inl ⟨_, rfl, ?_⟩
  | refine ⟨_, rfl, ?_⟩
  | refine ⟨(by unfold CMul; omega), ?_⟩
  | refine ⟨(by unfold CPow; omega), ?_⟩
  | refine ⟨(by (try dsimp only); omega), ?_⟩
  | refine ⟨(by unfold CDiv; omega), ?_⟩
  | fail "rd1")
local macro_rules | `(tactic| walk_at "rd") => `(tactic| repeat' (walk_at "rd1"))
section
variable {P : Program} {w : World} {K : PySem.W.Frag} {mg : Str → Option Value} {base : Heap} {A : Ad}

/-! ### stations -/
def StnN (ns : List Str) (d : PyData) : Prop := ∃ ss : List Str, d = .tuple (ss.map PyData.str) ∧ ss.Nodup ∧ 2 ≤ ss.length ∧ ss.length ≤ 64 ∧ ∀ s ∈ ss, s ∈ ns
structure SLn (K : PySem.W.Frag) (E : Hp) (p : Addr) (ns : List Str) (ds : List PyData) : Prop where
  ex : ∃ vs, E p = some (.lst vs) ∧ DpAll K E vs ds
  each : ∀ d ∈ ds, StnN ns d
theorem SLn.up {E E' : Hp} {p : Addr} {ns : List Str} {ds : List PyData} (h : SLn K E p ns ds) (s : Same E E') : SLn K E' p ns ds := by
  obtain ⟨vs, h1, h2⟩ := h.ex
  exact ⟨⟨vs, s _ _ h1, dpAllSame s h2⟩, h.each⟩
theorem tpAll_of : ∀ {ds : List PyData}, (∀ d ∈ ds, tp d = true) → tpAll ds = true
  | [], _ => rfl
  | d :: ds, h => by
    simp only [tpAll, Bool.and_eq_true]
    exact ⟨h d (List.mem_cons_self ..), tpAll_of fun e m => h e (List.mem_cons_of_mem _ m)⟩
theorem stnN_tp {ns : List Str} {d : PyData} (h : StnN ns d) : tp d = true := by
  obtain ⟨ss, rfl, _⟩ := h
  simp only [tp]
  exact tpAll_of fun d m => by
    obtain ⟨s, _, rfl⟩ := List.mem_map.mp m
    simp [tp]
def spStationL (K : PySem.W.Frag) : Sp := fun vs H Q _ => ∃ (st c t : Addr) (ns : List Str) (b : Int), vs = [.ref st, .ref t] ∧ Sta H st c b ∧ b + 200 ≤ 1000000 ∧ SqL K (er H st) t (ns.map V.str) ∧ ns.length ≤ 60 ∧ ns.Nodup ∧ (∀ s ∈ ns, PyData.strOk s = true) ∧
  ∀ (p : Addr) (es : List PyData) (H' : Hp), Gs st c H H' (b + 200) → SLn K (er H' st) p ns es → es.length ≤ 2 → er H st p = none → Q (.ref p) H'
theorem ok_stationl (T : Txt K mg A) : FnOk P w K mg base CX0 3 A.a__law_stations A.d__law_stations P__law_stations (spStationL K) := by
  have G__law_take : FnOk P w K mg base CX0 1 A.a__law_take A.d__law_take P__law_take spTake := ok_take T
  have G__law_mix : FnOk P w K mg base CX0 2 A.a__law_mix A.d__law_mix P__law_mix (spMix K) := ok_mix T
  refine T.f__law_stations.ok sc__law_stations (fun vs H Q E h => ?_) (fun cdv A' outer s H vs Q E hr h => ?_)
  · obtain ⟨st, c, t, ns, b, rfl, _⟩ := h
    rfl
  · obtain ⟨st, c, t, ns, b, rfl, S, hb, hS, hl, nd, hok, k⟩ := h
    refine ⟨_, (pss_cons (ps_set (i := 2) sc__law_stations.nd rfl (Or.inl rfl) (pe_lst pa_nil))
 (pss_cons (ps_for PassesOwn.never rfl (pi_range1 (by rfl) T.range (pa_cons (pe_ifExp (pt_cmpR op_gt (pe_callB call_len_seq (by rfl) T.len PySem.boot_len (pa_cons (pv 1) pa_nil)) pe_int (nomark _)) (pe_call G__law_take (hr.mono (by omega)) (by rfl) T.g__law_take T.f__law_take.kp T.b__law_take .nil pass0 (pa_cons (pv 0) (pa_cons pe_int pa_nil))) pe_int) pa_nil)) (pg_name (i := 3) sc__law_stations.nd rfl (Or.inl rfl))
 (pss_one (ps_expr (pe_bm PySem.F.plainAttrs_list PySem.F.slot_list_append PySem.F.type_list_append mt_append (pv 2) (pa_cons (pe_callTy call_tuple_of (by rfl) T.tuple (by decide +kernel) (pa_cons (pe_slice sl_list (pe_call G__law_mix (hr.mono (by omega)) (by rfl) T.g__law_mix T.f__law_mix.kp T.b__law_mix .nil pass0 (pa_cons (pv 0) (pa_cons (pv 1) pa_nil))) po_none (po_some (pe_op op_add pe_int (pe_call G__law_take (hr.mono (by omega)) (by rfl) T.g__law_take T.f__law_take.kp T.b__law_take .nil pass0 (pa_cons (pv 0) (pa_cons (pe_op op_sub (pe_callB call_len_seq (by rfl) T.len PySem.boot_len (pa_cons (pv 1) pa_nil)) pe_int) pa_nil)))))) pa_nil)) pa_nil)))))
 (pss_one (ps_ret (pv 2))))), ?_⟩
    refine ⟨Nat.zero_le _, fun p hp => ?_⟩
    have mp := S.ne hp
    have ep := er_none (st := st) hp
    have g0 := (Gs.refl S).new hp (o := .lst [])
    have hp0 : er (upd H p (.lst [])) st p = some (.lst []) := er_of mp upd_same
    generalize upd H p (.lst []) = H0 at g0 hp0 ⊢
    have sl0 : SLn K (er H0 st) p ns [] := ⟨⟨[], hp0, .nil⟩, fun d m => by cases m⟩
    refine ⟨_, rfl, t, _, rfl, .inl (sqEr (sqUp hS g0.same)), _, _, rfl, rfl, _, rfl, ite2 (fun c1 => ?_) (fun c1 => ?_)⟩
    · have c1 : 1 < ns.length := by
        have q : (1 : Int) < ((ns.map V.str).length : Int) := of_decide_eq_true c1
        rw [List.length_map] at q
        omega
      refine ⟨_, rfl, st, c, 3, _, rfl, g0.sta, by omega, by omega, by omega, fun r o hr0 hr1 S1 => ?_⟩
      have g1 := g0.trans (Gs.of_upd S1)
      rw [← er_upd H0 st o] at sl0
      generalize upd H0 st o = H1 at g1 sl0 ⊢
      refine ⟨r, rfl, by omega, by omega, for_range (lo := 0) (n := r.toNat) (fun i σ' H' => ∃ u3 es, σ' = [some (.ref st), some (.ref t), some (.ref p), u3] ∧ Gs st c H H' (b + 1 + 70 * (i : Int)) ∧ SLn K (er H' st) p ns es ∧ es.length ≤ i)
        ⟨_, [], rfl, by simpa using g1, sl0, Nat.le_refl _⟩ ?_ (fun σ' H' z => ?_)⟩
      · rintro i σ' H' hi ⟨u3, es, rfl, g, sl, el⟩
        have hi2 : (i : Int) < r := by omega
        obtain ⟨vs, hp1, hA1⟩ := sl.ex
        refine ⟨_, rfl, .inl ⟨rfl, _, SqL.of ((er_same _ _) _ _ hp1)⟩, ?_⟩
        refine ⟨_, rfl, _, rfl, st, c, t, ns, _, rfl, g.sta, by omega, sqUp hS g.same, by omega, hok, fun q ys H2 yp g2 hq hq0 => ?_⟩
        have sR := g2.same
        have g2 := g.trans g2
        refine ⟨_, rfl, _, rfl, t, _, rfl, .inl (sqEr (sqUp hS g2.same)), _, _, rfl, rfl, st, c, _, _, rfl, g2.sta, by omega, ?_, ?_, fun r2 o2 hr20 hr21 S3 => ?_⟩
        · show (0 : Int) < ((ns.map V.str).length : Int) - 1
          rw [List.length_map]; omega
        · show ((ns.map V.str).length : Int) - 1 < 1073741824
          rw [List.length_map]; omega
        have hr21 : r2 < (ns.length : Int) - 1 := by
          have q : r2 < ((ns.map V.str).length : Int) - 1 := hr21
          rwa [List.length_map] at q
        have g3 := g2.trans (Gs.of_upd S3)
        have hq3 : er (upd H2 st o2) st q = some (.lst (ys.map V.str)) := by rw [er_upd]; exact hq
        have sR : Same (er H' st) (er (upd H2 st o2) st) := by rw [er_upd]; exact sR
        generalize upd H2 st o2 = H3 at g3 hq3 sR ⊢
        refine ⟨_, _, rfl, rfl, _, rfl, q, _, rfl, SqL.of ((er_same _ _) _ _ hq3), fun l nl => ?_⟩
        have yl : ys.length = ns.length := yp.length_eq
        have ec : cutV (ys.map V.str) none (some (2 + r2)) = (ys.take (2 + r2).toNat).map V.str := by
          have e2 : (2 + r2 : Int) = (((2 + r2).toNat : Nat) : Int) := by omega
          unfold cutV
          rw [e2, HT.sIx_none, HT.sIx_nat, List.drop_zero, Nat.sub_zero, List.map_take, List.length_map, Int.toNat_natCast, Nat.min_eq_left (by omega)]
        rw [ec]
        have ml := g3.sta.ne nl
        have g4 := g3.new nl (o := .lst ((ys.take (2 + r2).toNat).map V.str))
        have s4 : Same (er H3 st) (er (upd H3 l (.lst ((ys.take (2 + r2).toNat).map V.str))) st) := er_mono (Same.new nl)
        have hl4 : upd H3 l (.lst ((ys.take (2 + r2).toNat).map V.str)) l = some (.lst ((ys.take (2 + r2).toNat).map V.str)) := upd_same
        generalize upd H3 l (.lst ((ys.take (2 + r2).toNat).map V.str)) = H4 at g4 s4 hl4 ⊢
        refine ⟨l, _, rfl, .inl ⟨SqL.of hl4, fun tt nt => ?_⟩⟩
        have mt := g4.sta.ne nt
        have g5 := g4.new nt (o := .tup ((ys.take (2 + r2).toNat).map V.str))
        have s5 : Same (er H4 st) (er (upd H4 tt (.tup ((ys.take (2 + r2).toNat).map V.str))) st) := er_mono (Same.new nt)
        have ht5 : er (upd H4 tt (.tup ((ys.take (2 + r2).toNat).map V.str))) st tt = some (.tup ((ys.take (2 + r2).toNat).map V.str)) := er_of mt upd_same
        generalize upd H4 tt (.tup ((ys.take (2 + r2).toNat).map V.str)) = H5 at g5 s5 ht5 ⊢
        have sR := sR.trans (s4.trans s5)
        have hp5 := sR _ _ hp1
        have A5 := dpAllSame sR hA1
        have vl := dpLen hA1
        refine ⟨p, vs, _, rfl, rfl, (er_same _ _) _ _ hp5, Nat.lt_of_le_of_lt (show vs.length ≤ 3 by omega) (by decide), ?_⟩
        refine ⟨_, es ++ [.tuple ((ys.take (2 + r2).toNat).map PyData.str)], rfl, (g5.set S.hc ep mp).le (by omega) (by omega), ?_, by rw [List.length_append, List.length_singleton]; omega⟩
        rw [er_updp mp]
        refine ⟨⟨_, upd_same, dpAllApp (dpAllMov (fun _ _ => tupSet hp5 (noTup_lst _)) A5 (tpAll_of fun d m => stnN_tp (sl.each d m))) (.tup (tupSet hp5 (noTup_lst _) (SqT.of ht5)) (dpStrs _))⟩, fun d m => ?_⟩
        rcases List.mem_append.mp m with m | m
        · exact sl.each d m
        · rw [List.mem_singleton.mp m]
          have kl : (ys.take (2 + r2).toNat).length = (2 + r2).toNat := by rw [List.length_take]; omega
          exact ⟨_, rfl, (yp.nodup_iff.mpr nd).sublist (List.take_sublist _ _), by omega, by omega, fun s m => yp.mem_iff.mp (List.mem_of_mem_take m)⟩
      · obtain ⟨u3, es, rfl, g, sl, el⟩ := z
        exact ⟨_, rfl, k p es H' (g.le (by omega) hb) sl (by omega) ep⟩
    · refine ⟨0, rfl, by decide, by decide, for_range (lo := 0) (n := (0 : Int).toNat) (fun i σ' H' => ∃ u3, σ' = [some (.ref st), some (.ref t), some (.ref p), u3] ∧ Gs st c H H' (b + 1) ∧ SLn K (er H' st) p ns []) ⟨_, rfl, g0.le (by omega) (by omega), sl0⟩ (fun i σ' H' hi => absurd hi (Nat.not_lt_zero _)) (fun σ' H' z => ?_)⟩
      obtain ⟨u3, rfl, g, sl⟩ := z
      exact ⟨_, rfl, k p [] H' (g.le (by omega) hb) sl (Nat.zero_le _) ep⟩
end
end K5
set_option Elab.async false
set_option linter.all false
set_option maxRecDepth 100000
set_option maxHeartbeats 4000000
namespace K5
open PySem L2
local macro_rules | `(tactic| walk_at "rd1") => `(tactic| first
  | refine ⟨_, _, rfl, rfl, ?_⟩
  | refine ⟨_, _, _, _, rfl, rfl, SqL.of (by assumption), rfl, ?_⟩
  | refine ⟨_, _, _, _, rfl, rfl, (by assumption), rfl, ?_⟩
  | refine .inl ⟨_, rfl, ?_⟩
  | refine ⟨_, rfl, ?_⟩
  | refine ⟨(by unfold CMul; omega), ?_⟩
  | refine ⟨(by unfold CPow; omega), ?_⟩
  | refine ⟨(by (try dsimp only); omega), ?_⟩
  | refine ⟨(by unfold CDiv; omega), ?_⟩
  | fail "rd1")
local macro_rules | `(tactic| walk_at "rd") => `(tactic| repeat' (walk_at "rd1"))
section
variable {P : Program} {w : World} {K : PySem.W.Frag} {mg : Str → Option Value} {base : Heap} {A : Ad}

/-! ### helpers for meals -/
mutual
theorem strip_tp : ∀ d : PyData, tp d = true → strip d = d
  | .list xs, h => by simp [tp] at h
  | .tuple xs, h => by
    simp only [tp] at h
    rw [strip, stripAll_tp xs h]
  | .none, _ => by simp [strip]
  | .bool b, _ => by simp [strip]
  | .int i, _ => by simp [strip]
  | .str s, _ => by simp [strip]
  | .dict kvs, _ => by simp [strip]
theorem stripAll_tp : ∀ ds : List PyData, tpAll ds = true → stripAll ds = ds
  | [], _ => by rw [stripAll]
  | d :: ds, h => by
    simp only [tpAll, Bool.and_eq_true] at h
    rw [stripAll, strip_tp d h.1, stripAll_tp ds h.2]
end
theorem momN_tp {ns : List Str} {d : PyData} (h : MomN ns d) : tp d = true := by
  cases h <;> simp [tp, tpAll]
theorem wshN_tp {ns : List Str} {d : PyData} (h : WshN ns d) : tp d = true := by
  cases h with
  | mk ha hb => simp only [tp, tpAll, momN_tp ha, momN_tp hb, Bool.and_self]
theorem tpAll_w {ns : List Str} {ds : List PyData} (h : ∀ d ∈ ds, WshN ns d) : tpAll ds = true := tpAll_of fun d m => wshN_tp (h d m)
theorem tpAll_s {ns : List Str} {ds : List PyData} (h : ∀ d ∈ ds, StnN ns d) : tpAll ds = true := tpAll_of fun d m => stnN_tp (h d m)
/-- names that are keys of a dict -/
def InK (kvs : List (Key × V)) (ns : List Str) : Prop := ∀ n ∈ ns, (valV kvs (.inr n)).isSome = true ∧ PyData.strOk n = true
theorem MomN.at {kvs : List (Key × V)} {ns : List Str} {d : PyData} (h : InK kvs ns) (m : MomN ns d) : Mom kvs d := by
  cases m with
  | clock => exact .clock
  | edge he hn => exact .edge he (h _ hn).1 (h _ hn).2
theorem WshN.at {kvs : List (Key × V)} {ns : List Str} {d : PyData} (h : InK kvs ns) (m : WshN ns d) : Wsh kvs d := by
  cases m with
  | mk ha hb => exact .mk (ha.at h) (hb.at h)
theorem StnN.at {kvs : List (Key × V)} {ns : List Str} {d : PyData} (h : InK kvs ns) (m : StnN ns d) : Stn kvs d := by
  obtain ⟨ss, e, nd, l1, l2, hm⟩ := m
  exact ⟨ss, e, nd, l1, l2, fun s q => (h s (hm s q)).1⟩
theorem PrX.inK {H : Hp} {ks : List Str} {f g : Str → V} {kvs : List (Key × V)} (h : PrX K H ks f g kvs) (nd : ks.Nodup) (ok : ∀ n ∈ ks, PyData.strOk n = true) : InK kvs ks := fun n m => by
  obtain ⟨a, e, _⟩ := h.val nd m
  exact ⟨by rw [e]; rfl, ok n m⟩
theorem InK.sub {kvs : List (Key × V)} {ns ms : List Str} (h : InK kvs ms) (s : ∀ n ∈ ns, n ∈ ms) : InK kvs ns := fun n m => h n (s n m)
theorem strip_atAll {P : PyData → Prop} {ds es : List PyData} (e : stripAll ds = es) (h : ∀ d ∈ es, P d) : ∀ d ∈ ds, P (strip d) := fun d m => h _ (by rw [← e, stripAll_map]; exact List.mem_map.mpr ⟨d, m, rfl⟩)
theorem strip_len {ds es : List PyData} (e : stripAll ds = es) : ds.length = es.length := by rw [← e, stripAll_map, List.length_map]
/-- a meal is made -/
theorem mk_meal {H : Hp} {C dd a s0 : Addr} {kvs : List (Key × V)} {ks : List Str} {lo hi : Str → Int} {xs zs : List V} {ds es dw ew : List PyData} {Q : Addr → Hp → Prop} {E : XK}
    (hd : H dd = some (.dK kvs)) (hP : PrX K H ks (fun n => .int (lo n)) (fun n => .int (hi n)) kvs) (kN : ks.Nodup) (hB : ∀ n ∈ ks, (Nm n ∧ PyData.strOk n = true) ∧ 1 ≤ lo n ∧ lo n ≤ hi n) (hl : ks.length < 64)
    (ha : SqX K H a xs) (hA : DpAll K H xs ds) (e1 : stripAll ds = dw) (dl : dw.length ≤ 1000) (hW : ∀ d ∈ dw, WshN ks d) (hs : SqX K H s0 zs) (hZ : DpAll K H zs es) (e2 : stripAll es = ew) (el : ew.length ≤ 1000) (hS : ∀ d ∈ ew, StnN ks d)
    (k : ∀ p H' ys, H p = none → Same H H' → (∀ H2, KeepM H H' H2 → MlAt K C H2 p ys lo hi dw ew) → ys.Perm ks → PyProof.Rows.sortedS ys = true → Q p H') :
    ∀ p dx, H p = none → H dx = none → dx ≠ p → spInit K C [.ref p, .ref dd, .ref a, .ref s0] (upd (upd H dx (.own p)) p (.ins C dx [])) (fun v H' => v = .non ∧ Q p H') E := by
  intro p dx np ndx ndp
  have sM : Same H (upd (upd H dx (.own p)) p (.ins C dx [])) := fun b u e => by rw [upd_ne (ne_of_none e np), upd_ne (ne_of_none e ndx)]; exact e
  have sE : Same H (er (upd (upd H dx (.own p)) p (.ins C dx [])) p) := fun b u e => er_of (ne_of_none e np) (sM _ _ e)
  have iK := hP.inK kN fun n m => (hB n m).1.2
  refine ⟨p, dx, dd, a, s0, kvs, ks, lo, hi, xs, ds, zs, es, rfl, upd_same, sM _ _ hd, hP.up sM, kN, hB, hl, sxUp ha sE, dpAllSame sE hA, by rw [strip_len e1]; exact dl, strip_atAll e1 fun d m => (hW d m).at iK, sxUp hs sE, dpAllSame sE hZ, by rw [strip_len e2]; exact el, strip_atAll e2 fun d m => (hS d m).at iK, fun H' ys MN hperm hsort sS => ⟨rfl, ?_⟩⟩
  rw [e1, e2] at MN
  exact k p H' ys np (fun b u e => (er_same _ _) _ _ (sS _ _ (sE _ _ e))) (fun H2 km => MN H2 fun b u e1 e2 e3 => km b u e1 e2 fun kk q => sM.free (e3 kk q)) hperm hsort
end
end K5
set_option Elab.async false
set_option linter.all false
set_option maxRecDepth 100000
set_option maxHeartbeats 4000000
namespace K5
open PySem L2
local macro_rules | `(tactic| walk_at "rd1") => `(tactic| first
  | refine ⟨_, _, rfl, rfl, ?_⟩
  | refine ⟨_, _, _, _, rfl, rfl, SqL.of (by assumption), rfl, ?_⟩
  | refine ⟨_, _, _, _, rfl, rfl, (by assumption), rfl, ?_⟩
  | refine .inl ⟨_, rfl, ?_⟩
  | refine ⟨_, rfl, ?_⟩
  | refine ⟨(by unfold CMul; omega), ?_⟩
  | refine ⟨(by unfold CPow; omega), ?_⟩
  | refine ⟨(by (try dsimp only); omega), ?_⟩
  | refine ⟨(by unfold CDiv; omega), ?_⟩
  | fail "rd1")
local macro_rules | `(tactic| walk_at "rd") => `(tactic| repeat' (walk_at "rd1"))
section
variable {P : Program} {w : World} {K : PySem.W.Frag} {mg : Str → Option Value} {base : Heap} {A : Ad}

/-! ### data compared -/
mutual
theorem eqv_tp : ∀ d : PyData, tq d = true → PyData.eqv d d = true
  | .str s, _ => by simp [PyData.eqv]
  | .int i, _ => by simp [PyData.eqv]
  | .tuple xs, h => by
    simp only [tq, Bool.and_eq_true] at h
    simp only [PyData.eqv]
    exact eqvAll_tp xs h.2
  | .none, h => by simp [tq] at h
  | .bool b, h => by simp [tq] at h
  | .list xs, h => by simp [tq] at h
  | .dict kvs, h => by simp [tq] at h
theorem eqvAll_tp : ∀ ds : List PyData, tqAll ds = true → PyData.eqvAll ds ds = true
  | [], _ => by simp [PyData.eqvAll]
  | d :: ds, h => by
    simp only [tqAll, Bool.and_eq_true] at h
    simp only [PyData.eqvAll, eqv_tp d h.1, eqvAll_tp ds h.2, Bool.and_self]
end
theorem eqvAll_len : ∀ {xs ys : List PyData}, xs.length ≠ ys.length → PyData.eqvAll xs ys = false
  | [], [], h => absurd rfl h
  | [], _ :: _, _ => by simp [PyData.eqvAll]
  | _ :: _, [], _ => by simp [PyData.eqvAll]
  | x :: xs, y :: ys, h => by
    simp only [PyData.eqvAll, eqvAll_len (xs := xs) (ys := ys) (fun e => h (by simp [e])), Bool.and_false]
theorem eqvAll_nil : ∀ ds : List PyData, PyData.eqv (.list ds) (.list []) = ds.isEmpty
  | [] => by simp [PyData.eqv, PyData.eqvAll]
  | d :: ds => by simp [PyData.eqv, PyData.eqvAll]
theorem eqvAll_strs : ∀ {xs ys : List Str}, PyData.eqvAll (xs.map PyData.str) (ys.map PyData.str) = true → xs = ys
  | [], [], _ => rfl
  | [], _ :: _, h => by simp [PyData.eqvAll] at h
  | _ :: _, [], h => by simp [PyData.eqvAll] at h
  | x :: xs, y :: ys, h => by
    simp only [List.map_cons, PyData.eqvAll, PyData.eqv, Bool.and_eq_true, beq_iff_eq] at h
    rw [h.1, eqvAll_strs h.2]
theorem rev_ne {ss : List Str} (nd : ss.Nodup) (l : 2 ≤ ss.length) : ss ≠ ss.reverse := fun e => by
  have h0 : ss[0]? = ss.reverse[0]? := congrArg (fun z => z[0]?) e
  rw [List.getElem?_reverse (by omega), List.getElem?_eq_getElem (show 0 < ss.length by omega), List.getElem?_eq_getElem (show ss.length - 1 - 0 < ss.length by omega)] at h0
  have := (List.getElem_inj nd).mp (Option.some.inj h0)
  omega
theorem stn_rev {ns : List Str} {d : PyData} (h : StnN ns d) : ∃ ss : List Str, d = .tuple (ss.map PyData.str) ∧ StnN ns (.tuple (ss.reverse.map PyData.str)) ∧ PyData.eqv d (.tuple (ss.reverse.map PyData.str)) = false := by
  obtain ⟨ss, rfl, nd, l1, l2, m⟩ := h
  refine ⟨ss, rfl, ⟨_, rfl, (List.reverse_perm ss).nodup_iff.mpr nd, by rw [List.length_reverse]; exact l1, by rw [List.length_reverse]; exact l2, fun s q => m s (List.mem_reverse.mp q)⟩, ?_⟩
  refine Bool.eq_false_iff.mpr fun e => ?_
  simp only [PyData.eqv] at e
  exact rev_ne nd l1 (eqvAll_strs e)
/-! ### the shape of wishes and stations -/
def NOk (ns : List Str) : Prop := ∀ n ∈ ns, PyData.strOk n = true
theorem momN_lay {ns : List Str} {d : PyData} (ok : NOk ns) (h : MomN ns d) : PyData.canLay0 d = true ∧ d.depth ≤ 1 ∧ tq d = true := by
  cases h with
  | clock => exact ⟨by simp only [PyData.canLay0]; decide +kernel, by simp [PyData.depth], by simp [tq]⟩
  | @edge e n he hn =>
    have e1 : PyData.strOk e = true := by rcases he with q | q <;> (subst q; decide +kernel)
    exact ⟨by simp [PyData.canLay0, PyData.canLayAll0, e1, ok _ hn], by simp [PyData.depth, PyData.depthAll], by simp [tq, tqAll]⟩
theorem wshN_lay {ns : List Str} {d : PyData} (ok : NOk ns) (h : WshN ns d) : PyData.canLay0 d = true ∧ d.depth ≤ 2 ∧ tq d = true := by
  cases h with
  | mk ha hb =>
    obtain ⟨a1, a2, a3⟩ := momN_lay ok ha
    obtain ⟨b1, b2, b3⟩ := momN_lay ok hb
    refine ⟨by simp [PyData.canLay0, PyData.canLayAll0, a1, b1], ?_, by simp [tq, tqAll, a3, b3]⟩
    simp only [PyData.depth, PyData.depthAll]
    omega
theorem strs_tq : ∀ ss : List Str, tqAll (ss.map PyData.str) = true
  | [] => by simp [tqAll]
  | s :: ss => by simp only [List.map_cons, tqAll, tq, strs_tq ss, Bool.and_self]
theorem stnN_lay {ns : List Str} {d : PyData} (ok : NOk ns) (h : StnN ns d) : PyData.canLay0 d = true ∧ d.depth ≤ 2 ∧ tq d = true := by
  obtain ⟨ss, rfl, _, _, l2, m⟩ := h
  refine ⟨by simp only [PyData.canLay0]; exact strs_lay fun s q => ok s (m s q), by simp [PyData.depth, strs_depth], ?_⟩
  simp only [tq, Bool.and_eq_true, decide_eq_true_eq, List.length_map]
  exact ⟨l2, strs_tq ss⟩
theorem lay_all : ∀ {ds : List PyData}, (∀ d ∈ ds, PyData.canLay0 d = true ∧ d.depth ≤ 2 ∧ tq d = true) → PyData.canLayAll0 ds = true ∧ PyData.depthAll ds ≤ 2 ∧ tqAll ds = true
  | [], _ => by simp [PyData.canLayAll0, PyData.depthAll, tqAll]
  | d :: ds, h => by
    obtain ⟨a1, a2, a3⟩ := h d (List.mem_cons_self ..)
    obtain ⟨b1, b2, b3⟩ := lay_all fun e m => h e (List.mem_cons_of_mem _ m)
    refine ⟨by simp [PyData.canLayAll0, a1, b1], ?_, by simp [tqAll, a3, b3]⟩
    simp only [PyData.depthAll]
    omega
theorem shaped_all {ds : List PyData} (h : ∀ d ∈ ds, PyData.canLay0 d = true ∧ d.depth ≤ 2 ∧ tq d = true) : SeqAt.shaped (.tuple ds) = true ∧ SeqAt.shaped (.list ds) = true ∧ PyData.eqvAll ds ds = true := by
  obtain ⟨a1, a2, a3⟩ := lay_all h
  refine ⟨?_, ?_, eqvAll_tp _ a3⟩ <;>
  · unfold SeqAt.shaped
    rw [Bool.and_eq_true]
    refine ⟨by simp only [PyData.canLay0]; exact a1, decide_eq_true ?_⟩
    simp only [PyData.depth]
    omega
theorem WshN.mono {ns ms : List Str} {d : PyData} (s : ∀ n ∈ ns, n ∈ ms) (h : WshN ns d) : WshN ms d := by
  have mm : ∀ {e : PyData}, MomN ns e → MomN ms e := fun q => by
    cases q with
    | clock => exact .clock
    | edge he hn => exact .edge he (s _ hn)
  cases h with
  | mk ha hb => exact .mk (mm ha) (mm hb)
theorem StnN.mono {ns ms : List Str} {d : PyData} (s : ∀ n ∈ ns, n ∈ ms) (h : StnN ns d) : StnN ms d := by
  obtain ⟨ss, e, nd, l1, l2, m⟩ := h
  exact ⟨ss, e, nd, l1, l2, fun x q => s _ (m x q)⟩
/-! ### unlike meals -/
theorem eqMl_len {ys ys2 : List Str} {lo hi lo2 hi2 : Str → Int} {ds ds2 es es2 : List PyData} (h : ys.length ≠ ys2.length) : eqMl ys ys2 lo hi lo2 hi2 ds ds2 es es2 = false := by
  unfold eqMl
  rw [show (ys.length == ys2.length) = false from beq_eq_false_iff_ne.mpr h]; rfl
theorem eqMl_w {ys ys2 : List Str} {lo hi lo2 hi2 : Str → Int} {ds ds2 es es2 : List PyData} (h : PyData.eqvAll ds ds2 = false) : eqMl ys ys2 lo hi lo2 hi2 ds ds2 es es2 = false := by
  unfold eqMl
  rw [h, Bool.and_false]; rfl
theorem eqMl_s {ys ys2 : List Str} {lo hi lo2 hi2 : Str → Int} {ds ds2 es es2 : List PyData} (h : PyData.eqvAll es es2 = false) : eqMl ys ys2 lo hi lo2 hi2 ds ds2 es es2 = false := by
  unfold eqMl
  rw [h, Bool.and_false]
theorem dfind_bD {ys : List Str} {lo hi : Str → Int} {n : Str} (nd : ys.Nodup) (m : n ∈ ys) : Own.dfind (bD ys lo hi) (.inr n) = some (.tuple [.int (lo n), .int (hi n)]) := by
  unfold Own.dfind bD
  induction ys with
  | nil => cases m
  | cons y ys ih =>
    rw [List.map_cons, List.find?_cons]
    by_cases e : y = n
    · subst e
      simp
    · have e2 : decide ((Sum.inr y : Key) = .inr n) = false := decide_eq_false fun z => e (Sum.inr.inj z)
      simp only [e2]
      exact ih (List.nodup_cons.mp nd).2 ((List.mem_cons.mp m).resolve_left fun z => e z.symm)
theorem eqKD_bD {ys : List Str} {lo hi lo2 hi2 : Str → Int} (nd : ys.Nodup) : Own.eqKD (bD ys lo hi) (bD ys lo2 hi2) = ys.all fun n => decide (lo n = lo2 n) && decide (hi n = hi2 n) := by
  unfold Own.eqKD
  have key : ∀ zs : List Str, (∀ z ∈ zs, z ∈ ys) → (bD zs lo hi).all (fun p => match Own.dfind (bD ys lo2 hi2) p.1 with | some u => PyData.eqv p.2 u | none => false) = zs.all fun n => decide (lo n = lo2 n) && decide (hi n = hi2 n) := fun zs => by
    induction zs with
    | nil => intro _; rfl
    | cons z zs ih =>
      intro h
      show ((match Own.dfind (bD ys lo2 hi2) (.inr z) with | some u => PyData.eqv (.tuple [.int (lo z), .int (hi z)]) u | none => false) && _) = _
      rw [dfind_bD nd (h z (List.mem_cons_self ..)), List.all_cons]
      refine congr (congrArg _ ?_) (ih fun q m => h q (List.mem_cons_of_mem _ m))
      simp only [PyData.eqv, PyData.eqvAll, Bool.and_true]
      rfl
  exact key ys fun _ m => m
theorem eqMl_b {ys : List Str} {lo hi lo2 hi2 : Str → Int} {ds ds2 es es2 : List PyData} {n : Str} (nd : ys.Nodup) (m : n ∈ ys) (h : hi n ≠ hi2 n) : eqMl ys ys lo hi lo2 hi2 ds ds2 es es2 = false := by
  unfold eqMl
  rw [eqKD_bD nd]
  have : (ys.all fun n => decide (lo n = lo2 n) && decide (hi n = hi2 n)) = false := by
    refine Bool.eq_false_iff.mpr fun e => ?_
    have := List.all_eq_true.mp e n m
    rw [Bool.and_eq_true] at this
    exact h (of_decide_eq_true this.2)
  rw [this, Bool.and_false]; rfl
theorem eqMl_refl {ys : List Str} {lo hi : Str → Int} {ds es : List PyData} (nd : ys.Nodup) (h1 : PyData.eqvAll ds ds = true) (h2 : PyData.eqvAll es es = true) : eqMl ys ys lo hi lo hi ds ds es es = true := by
  unfold eqMl
  rw [eqKD_bD nd, h1, h2, beq_self_eq_true]
  simp
end
end K5
set_option Elab.async false
set_option linter.all false
set_option maxRecDepth 100000
set_option maxHeartbeats 4000000
namespace K5
open PySem L2
local macro_rules | `(tactic| walk_at "rd1") => `(tactic| first
  | refine ⟨_, _, rfl, rfl, ?_⟩
  | refine ⟨_, _, _, _, rfl, rfl, SqL.of (by assumption), rfl, ?_⟩
  | refine ⟨_, _, _, _, rfl, rfl, (by assumption), rfl, ?_⟩
  | refine .inl ⟨_, rfl, ?_⟩
  | refine ⟨_, rfl, ?_⟩
  | refine ⟨(by unfold CMul; omega), ?_⟩
  | refine ⟨(by unfold CPow; omega), ?_⟩
  | refine ⟨(by (try dsimp only); omega), ?_⟩
  | refine ⟨(by unfold CDiv; omega), ?_⟩
  | fail "rd1")
local macro_rules | `(tactic| walk_at "rd") => `(tactic| repeat' (walk_at "rd1"))
section
variable {P : Program} {w : World} {K : PySem.W.Frag} {mg : Str → Option Value} {base : Heap} {A : Ad}

/-! ### copies -/
/-- G' is G and what is new since H -/
structure More (H G G' : Hp) : Prop where
  same : Same G G'
  new : ∀ b, G' b ≠ none → G b ≠ none ∨ H b = none
theorem More.refl (H G : Hp) : More H G G := ⟨Same.refl _, fun _ h => .inl h⟩
theorem More.step {H H1 G G1 G2 : Hp} (a : More H G G1) (s : Same H H1) (b : More H1 G1 G2) : More H G G2 := ⟨a.same.trans b.same, fun x h => (b.new x h).elim (a.new x) fun e => .inr (s.free e)⟩
theorem More.put {H G G1 : Hp} {D : Addr} {o : HO} (a : More H G G1) (hD : H D = none) (h1 : G1 D = none) : More H G (upd G1 D o) := ⟨a.same.trans (Same.new h1), fun b h => by
  by_cases e : b = D
  · exact .inr (by rw [e]; exact hD)
  · rw [upd_ne e] at h; exact a.new b h⟩
theorem dpApp {H : Hp} : ∀ {vs : List V} {ds : List PyData} {v : V} {d : PyData}, DpAll K H vs ds → Dp K H v d → DpAll K H (vs ++ [v]) (ds ++ [d])
  | _, _, _, _, .nil, h => .cons h .nil
  | _, _, _, _, .cons a b, h => .cons a (dpApp b h)
def spCopy (K : PySem.W.Frag) (n : Nat) : Sp := fun vs H Q _ => ∃ x, vs = [x] ∧
  ((∃ (d : PyData) (G : Hp), Same G H ∧ Dp K G x d ∧ d.depth < n ∧ wid d = true ∧ ∀ y G' H', Same H H' → More H G G' → Same G' H' → Dp K G' y d → Q y H') ∨
    (∃ a, x = .ref a ∧ H a = some (.dK []) ∧ 0 < n ∧ ∀ b H', Same H H' → H b = none → H' b = some (.dK []) → Q (.ref b) H'))
theorem copy_loop {J : It} {n : Nat} {Gd : Hp → Prop} {xs : List V} {ds : List PyData} {H G : Hp} {D : Addr} {x0 : V} {Qd : Hp → Prop} (wk : Walk J xs.length Gd (YAt xs)) (hx : DpAll K G xs ds) (hGH : Same G H)
    (hd : PyData.depthAll ds < n) (hw : widAll ds = true) (hN : ds.length ≤ 1000) (hG : ∀ H', Same H H' → Gd H') (hD : H D = none) (hq : ∀ H' acc G', Same H H' → H' D = some (.lst acc) → More H G G' → Same G' H' → G' D = none → DpAll K G' acc ds → Qd H') :
    ∃ W : Nat → Nat → Hp → Prop, (∃ m, W 0 m (upd H D (.lst []))) ∧ ∀ i m H, W i m H →
      (J.stop i H ∧ Qd H) ∨ (J.go i H ∧ ∃ Nx : Hp → Prop, (∀ H', Nx H' → ∃ m', m' < m ∧ W (i + 1) m' H') ∧ ∀ x H', J.yld i H x H' →
        gName 1 x (wipe [some x0, none, none] [1]) H' fun σ2 H2 => wipe σ2 [1] = wipe [some x0, none, none] [1] ∧ tYes σ2 H2 fun b H3 =>
        if b = true then (tCall (spCopy K n) [] E0 (tCons (tVar 1) tNil)) σ2 H3 fun y H4 => ∃ acc, H4 D = some (.lst acc) ∧ acc.length < sizeLine ∧ Nx (upd H4 D (.lst (acc ++ [y]))) else Nx H3) := by
  have gD : G D = none := hGH.free hD
  refine lc_it wk (fun i H' => Same H H' ∧ ∃ acc G', H' D = some (.lst acc) ∧ More H G G' ∧ Same G' H' ∧ G' D = none ∧ DpAll K G' acc (ds.take i)) ⟨Same.new hD, [], G, upd_same, More.refl _ _, hGH.trans (Same.new hD), gD, .nil⟩ (fun i H' _ p => hG H' p.1) ?_ (fun H' p => ?_)
  · rintro i v H' H'' hi ⟨s1, acc, G', hD', mo, sG, gD', hA⟩ ⟨rfl, hv⟩
    obtain ⟨d, hd1, dx⟩ := dpGet hx hv
    have hdep : d.depth < n := Nat.lt_of_le_of_lt (PyData.depth_le_depthAll ds d (List.mem_of_getElem? hd1)) hd
    have hil : i < ds.length := (List.getElem?_eq_some_iff.mp hd1).1
    have hal := dpLen hA
    refine ⟨rfl, _, rfl, v, rfl, .inl ⟨d, G', sG, dpSame mo.same dx, hdep, widAll_mem hw (List.mem_of_getElem? hd1), fun y G2 H3 s3 mo2 sG2 hy => ?_⟩⟩
    have hD3 := s3 _ _ hD'
    refine ⟨acc, hD3, Nat.lt_of_le_of_lt (show acc.length ≤ 1000 by rw [hal, List.length_take]; omega) (by decide), ?_, acc ++ [y], G2, upd_same, mo.step s1 mo2, ?_, ?_, ?_⟩
    · exact fun b u e => by rw [upd_ne (ne_of_none e hD)]; exact s3 _ _ (s1 _ _ e)
    · have g2 : G2 D = none := by
        cases e : G2 D with
        | none => rfl
        | some o => exact ((mo2.new D (by rw [e]; exact fun z => nomatch z)).elim (fun z => z gD') fun z => by rw [hD'] at z; cases z).elim
      exact fun b u e => by rw [upd_ne (ne_of_none e g2)]; exact sG2 _ _ e
    · cases e : G2 D with
      | none => rfl
      | some o => exact ((mo2.new D (by rw [e]; exact fun z => nomatch z)).elim (fun z => z gD') fun z => by rw [hD'] at z; cases z).elim
    · rw [List.take_succ, hd1]
      exact dpApp (dpAllSame mo2.same hA) hy
  · obtain ⟨s1, acc, G', hD', mo, sG, gD', hA⟩ := p
    rw [dpLen hx, List.take_length] at hA
    exact hq H' acc G' s1 hD' mo sG gD' hA
theorem ok_copied (T : Txt K mg A) : ∀ n : Nat, FnOk P w K mg base CX0 n A.a_copied A.d_copied P_copied (spCopy K n)
  | 0 => no_fn fun vs H Q E ⟨_, _, h⟩ => h.elim (fun ⟨_, _, _, _, h, _⟩ => absurd h (Nat.not_lt_zero _)) fun ⟨_, _, _, h, _⟩ => absurd h (Nat.not_lt_zero _)
  | n + 1 => by
    have G_copied : FnOk P w K mg base CX0 n A.a_copied A.d_copied P_copied (spCopy K n) := ok_copied T n
    refine T.f_copied.ok sc_copied (fun vs H Q E h => ?_) (fun cdv A' outer s H vs Q E hr h => ?_)
    · obtain ⟨x, rfl, _⟩ := h
      rfl
    · obtain ⟨x, rfl, h⟩ := h
      refine ⟨_, (pss_cons (ps_if (pt_val (pe_callB call_isi (by rfl) T.isinstance (by decide +kernel) (pa_cons (pv 0) (pa_cons (pe_bltn (v := .ty "list") (u := .type "list") (by rfl) T.list (by decide +kernel) rfl) pa_nil))))
 (pss_one (ps_ret (pe_lc (own := [("part", 1)]) (g := gName 1) (by rfl) sc_copied.nd (EnT.pi_or (pi_list (pv 0)) (pi_tup (pv 0))) (blkOk_by (N := N_copied) (sc := defScope s_copied) (by decide +kernel)) (fun _ _ _ _ _ => pg_name (i := 1) sc_copied.nd rfl (Or.inl rfl)) (fun _ _ _ _ _ => pts_nil) (fun _ _ _ _ _ => (pe_call G_copied (hr.mono (by omega)) (by rfl) T.g_copied T.f_copied.kp T.b_copied .nil pass0 (pa_cons (pv 1) pa_nil))))))
 pss_nil)
 (pss_cons (ps_if (pt_val (pe_callB call_isi (by rfl) T.isinstance (by decide +kernel) (pa_cons (pv 0) (pa_cons (pe_bltn (v := .ty "tuple") (u := .type "tuple") (by rfl) T.tuple (by decide +kernel) rfl) pa_nil))))
 (pss_one (ps_ret (pe_callTy call_tuple_of (by rfl) T.tuple (by decide +kernel) (pa_cons (pe_lc (own := [("part", 1)]) (g := gName 1) (by rfl) sc_copied.nd (EnT.pi_or (pi_list (pv 0)) (pi_tup (pv 0))) (blkOk_by (N := N_copied) (sc := defScope s_copied) (by decide +kernel)) (fun _ _ _ _ _ => pg_name (i := 1) sc_copied.nd rfl (Or.inl rfl)) (fun _ _ _ _ _ => pts_nil) (fun _ _ _ _ _ => (pe_call G_copied (hr.mono (by omega)) (by rfl) T.g_copied T.f_copied.kp T.b_copied .nil pass0 (pa_cons (pv 1) pa_nil)))) pa_nil))))
 pss_nil)
 (pss_cons (ps_if (pt_val (pe_callB call_isi (by rfl) T.isinstance (by decide +kernel) (pa_cons (pv 0) (pa_cons (pe_bltn (v := .ty "dict") (u := .type "dict") (by rfl) T.dict (by decide +kernel) rfl) pa_nil))))
 (pss_one (ps_ret (pe_lock (pe_dc (own := [("key", 2)]) (g := gName 2) (by rfl) sc_copied.nd (pi_keys (pv 0)) (blkOk_by (N := N_copied) (sc := defScope s_copied) (by decide +kernel)) (fun _ _ _ _ _ => pg_name (i := 2) sc_copied.nd rfl (Or.inl rfl)) (fun _ _ _ _ _ => pts_nil) (fun _ _ _ _ _ => (pv 2)) (fun _ _ _ _ _ => (pe_call G_copied (hr.mono (by omega)) (by rfl) T.g_copied T.f_copied.kp T.b_copied .nil pass0 (pa_cons (pe_dget (hu_of hr) (pv 0) (pv 2) (fun _ _ => rfl)) pa_nil)))))))
 pss_nil)
 (pss_one (ps_ret (pv 0)))))), ?_⟩
      rcases h with ⟨d, G, sG, hx, hd, hw, k⟩ | ⟨a, rfl, ha, _, k⟩
      · cases hx with
        | non => exact ⟨_, rfl, _, _, .type "NoneType", _, false, rfl, .ty _, .base .non, kit_ty (by decide +kernel), _, rfl, iteF ⟨_, rfl, _, _, .type "NoneType", _, false, rfl, .ty _, .base .non, kit_ty (by decide +kernel), _, rfl, iteF ⟨_, rfl, _, _, .type "NoneType", _, false, rfl, .ty _, .base .non, kit_ty (by decide +kernel), _, rfl, iteF ⟨_, rfl, k _ G H (Same.refl _) (More.refl _ _) sG (.non)⟩⟩⟩⟩
        | bl b => exact ⟨_, rfl, _, _, .type "bool", _, false, rfl, .ty _, .base (.bl _), kit_ty (by decide +kernel), _, rfl, iteF ⟨_, rfl, _, _, .type "bool", _, false, rfl, .ty _, .base (.bl _), kit_ty (by decide +kernel), _, rfl, iteF ⟨_, rfl, _, _, .type "bool", _, false, rfl, .ty _, .base (.bl _), kit_ty (by decide +kernel), _, rfl, iteF ⟨_, rfl, k _ G H (Same.refl _) (More.refl _ _) sG (.bl _)⟩⟩⟩⟩
        | int i => exact ⟨_, rfl, _, _, .type "int", _, false, rfl, .ty _, .base (.int _), kit_ty (by decide +kernel), _, rfl, iteF ⟨_, rfl, _, _, .type "int", _, false, rfl, .ty _, .base (.int _), kit_ty (by decide +kernel), _, rfl, iteF ⟨_, rfl, _, _, .type "int", _, false, rfl, .ty _, .base (.int _), kit_ty (by decide +kernel), _, rfl, iteF ⟨_, rfl, k _ G H (Same.refl _) (More.refl _ _) sG (.int _)⟩⟩⟩⟩
        | str z => exact ⟨_, rfl, _, _, .type "str", _, false, rfl, .ty _, .base (.str _), kit_ty (by decide +kernel), _, rfl, iteF ⟨_, rfl, _, _, .type "str", _, false, rfl, .ty _, .base (.str _), kit_ty (by decide +kernel), _, rfl, iteF ⟨_, rfl, _, _, .type "str", _, false, rfl, .ty _, .base (.str _), kit_ty (by decide +kernel), _, rfl, iteF ⟨_, rfl, k _ G H (Same.refl _) (More.refl _ _) sG (.str _)⟩⟩⟩⟩
        | lst hL hA =>
          obtain ⟨w1, w2⟩ := wid_parts (.inl hw)
          have t1 := tyL (sqUp hL sG)
          refine ⟨_, rfl, _, _, .type "list", _, true, rfl, .ty _, t1, kit_ty (by decide +kernel), _, rfl, iteT ?_⟩
          refine seq_or (H0 := H) (.inl (sqUp hL sG)) (Same.refl _) rfl fun J Gd wk hG => fun D hD => copy_loop wk hA sG (by simp only [PyData.depth] at hd; omega) w2 w1 hG hD (fun H' acc G' s' hD' mo sG' gD hA' => ?_)
          refine k (.ref D) (upd G' D (.lst acc)) H' s' (mo.put hD gD) ?_ (.lst (SqL.of upd_same) (dpAllSame (Same.new gD) hA'))
          intro b u e
          by_cases hb : b = D
          · subst hb; rw [upd_same] at e; cases e; exact hD'
          · rw [upd_ne hb] at e; exact sG' _ _ e
        | tup hL hA =>
          obtain ⟨w1, w2⟩ := wid_parts (.inr hw)
          have t1 := tyT (stUp hL sG)
          refine ⟨_, rfl, _, _, .type "tuple", _, false, rfl, .ty _, t1, kit_ty (by decide +kernel), _, rfl, iteF ?_⟩
          refine ⟨_, rfl, _, _, .type "tuple", _, true, rfl, .ty _, t1, kit_ty (by decide +kernel), _, rfl, iteT ?_⟩
          refine seq_or (H0 := H) (.inr (stUp hL sG)) (Same.refl _) rfl fun J Gd wk hG => fun D hD => copy_loop wk hA sG (by simp only [PyData.depth] at hd; omega) w2 w1 hG hD (fun H' acc G' s' hD' mo sG' gD hA' => ?_)
          refine ⟨D, _, rfl, .inl ⟨SqL.of hD', fun t ht => ?_⟩⟩
          have gt : G' t = none := sG'.free ht
          refine k (.ref t) (upd G' t (.tup acc)) _ (s'.trans (Same.new ht)) (mo.put (s'.free ht) gt) ?_ (.tup (SqT.of upd_same) (dpAllSame (Same.new gt) hA'))
          intro b u e
          by_cases hb : b = t
          · subst hb; rw [upd_same] at e ⊢; exact e
          · rw [upd_ne hb] at e ⊢; exact sG' _ _ e
      · have t1 : TyX K H (.ref a) (.type "dict") := .base (.dK ha)
        refine ⟨_, rfl, _, _, .type "dict", _, false, rfl, .ty _, t1, kit_ty (by decide +kernel), _, rfl, iteF ?_⟩
        refine ⟨_, rfl, _, _, .type "dict", _, false, rfl, .ty _, t1, kit_ty (by decide +kernel), _, rfl, iteF ?_⟩
        refine ⟨_, rfl, _, _, .type "dict", _, true, rfl, .ty _, t1, kit_ty (by decide +kernel), _, rfl, iteT ?_⟩
        refine ⟨a, _, ha, trivial, fun od => ?_⟩
        refine ⟨_, rfl, a, od, rfl, .inl ⟨[], upd_same, fun D hD => fillD walk_keys (fun i H' => H' = upd (upd H a (.frz od (.dK []))) D (.dK [])) rfl (fun i H' _ e => ?_) ?_ (fun H' e => ?_)⟩⟩
        · have n : a ≠ D := ne_of_none upd_same hD
          rw [e, upd_ne n, upd_same]
        · intro i x H' H'' hi
          exact absurd hi (Nat.not_lt_zero _)
        · subst e
          have n : a ≠ D := ne_of_none upd_same hD
          have hD0 : H D = none := by rw [upd_ne n.symm] at hD; exact hD
          refine ⟨by rw [upd_ne n, upd_same], k D _ (fun b u e => ?_) hD0 (by rw [upd_ne n.symm, upd_same])⟩
          by_cases hb : b = a
          · subst hb; rw [upd_same]; rw [ha] at e; exact e
          · rw [upd_ne hb, upd_ne (ne_of_none e hD0), upd_ne hb]; exact e
/-- data that can be copied: at a depth below n, in G; or an empty dict -/
def Cpre (K : PySem.W.Frag) (n : Nat) (G H : Hp) (x : V) : Prop := Same G H ∧ ((∃ d, Dp K G x d ∧ d.depth < n ∧ wid d = true) ∨ ∃ a, x = .ref a ∧ H a = some (.dK []) ∧ 0 < n)
/-- two of the same data -/
def SD (K : PySem.W.Frag) (n : Nat) (H : Hp) (x y : V) : Prop := (∃ d, Dp K H x d ∧ Dp K H y d ∧ d.depth < n ∧ wid d = true) ∨ ∃ a b, x = .ref a ∧ y = .ref b ∧ H a = some (.dK []) ∧ H b = some (.dK [])
theorem exo_dK {e C : Addr} {d : Option Addr} {kvs : List (Key × V)} : exo e C d ≠ .dK kvs := fun z => by unfold exo at z; cases z
def spNWI (K : PySem.W.Frag) (n : Nat) (C : Addr) : Sp := fun vs H Q _ => ∃ (a : Addr) (x : V) (G : Hp), vs = [.ref a, x] ∧ H a = some (exo a C none) ∧ G a = none ∧ Cpre K n G H x ∧
  ∀ y Hc dx, Same H Hc → Hc dx = none → dx ≠ a → (∀ H', (∀ b u, Hc b = some u → b ≠ a → H' b = some u) → SD K n H' x y) → Q .non (upd (upd Hc dx (exd dx [("index", y)])) a (exo a C (some dx)))
theorem ok_nwi (T : Txt K mg A) (n : Nat) : FnOk P w K mg base CX0 (n + 1) A.a_NoWish___init__ A.d_NoWish___init__ P_NoWish___init__ (spNWI K n A.a_NoWish) := by
  have G_copied : FnOk P w K mg base CX0 n A.a_copied A.d_copied P_copied (spCopy K n) := ok_copied T n
  refine T.f_NoWish___init__.ok sc_NoWish___init__ (fun vs H Q E h => ?_) (fun cdv A' outer s H vs Q E hr h => ?_)
  · obtain ⟨a, x, G, rfl, _⟩ := h
    rfl
  · obtain ⟨a, x, G, rfl, ha, ga, ⟨sG, hx⟩, k⟩ := h
    refine ⟨_, (pss_one (ps_ost (pv 0) (pe_call G_copied (hr.mono (by omega)) (by rfl) T.g_copied T.f_copied.kp T.b_copied .nil pass0 (pa_cons (pv 1) pa_nil)))), ?_⟩
    rcases hx with ⟨d, hx, hd, hw⟩ | ⟨a2, rfl, ha2, hn⟩
    · refine ⟨_, rfl, x, rfl, .inl ⟨d, G, sG, hx, hd, hw, fun y G' Hc s1 mo sG' hy => ⟨_, rfl, a, A.a_NoWish, rfl, T.xWi, T.nWi, .inl ⟨s1 _ _ ha, fun dx h1 h2 => k y Hc dx s1 h1 h2 fun H' hh => .inl ⟨d, ?_, ?_, hd, hw⟩⟩⟩⟩⟩
      · exact dpSame (fun b u e => hh b u (s1 _ _ (sG _ _ e)) fun z => by rw [z, ga] at e; cases e) hx
      · refine dpSame (fun b u e => hh b u (sG' _ _ e) fun z => ?_) hy
        subst z
        rcases mo.new b (by rw [e]; exact fun z => nomatch z) with z | z
        · exact z ga
        · rw [ha] at z; cases z
    · refine ⟨_, rfl, _, rfl, .inr ⟨a2, rfl, ha2, hn, fun b Hc s1 hb0 hb => ⟨_, rfl, a, A.a_NoWish, rfl, T.xWi, T.nWi, .inl ⟨s1 _ _ ha, fun dx h1 h2 => k _ Hc dx s1 h1 h2 fun H' hh => .inr ⟨a2, b, rfl, rfl, ?_, ?_⟩⟩⟩⟩⟩
      · exact hh _ _ (s1 _ _ ha2) fun z => by rw [z, ha] at ha2; exact exo_dK (Option.some.inj ha2)
      · exact hh _ _ hb fun z => by rw [z, ha] at hb0; cases hb0
def spCLI (K : PySem.W.Frag) (n : Nat) (C : Addr) : Sp := fun vs H Q _ => ∃ (a : Addr) (x : V) (G : Hp), vs = [.ref a, x] ∧ H a = some (exo a C none) ∧ G a = none ∧ Cpre K n G H x ∧
  ∀ y Hc dx, Same H Hc → Hc dx = none → dx ≠ a → (∀ H', (∀ b u, Hc b = some u → b ≠ a → H' b = some u) → SD K n H' x y) → Q .non (upd (upd Hc dx (exd dx [("name", y)])) a (exo a C (some dx)))
theorem ok_cli (T : Txt K mg A) (n : Nat) : FnOk P w K mg base CX0 (n + 1) A.a_Clash___init__ A.d_Clash___init__ P_Clash___init__ (spCLI K n A.a_Clash) := by
  have G_copied : FnOk P w K mg base CX0 n A.a_copied A.d_copied P_copied (spCopy K n) := ok_copied T n
  refine T.f_Clash___init__.ok sc_Clash___init__ (fun vs H Q E h => ?_) (fun cdv A' outer s H vs Q E hr h => ?_)
  · obtain ⟨a, x, G, rfl, _⟩ := h
    rfl
  · obtain ⟨a, x, G, rfl, ha, ga, ⟨sG, hx⟩, k⟩ := h
    refine ⟨_, (pss_one (ps_ost (pv 0) (pe_call G_copied (hr.mono (by omega)) (by rfl) T.g_copied T.f_copied.kp T.b_copied .nil pass0 (pa_cons (pv 1) pa_nil)))), ?_⟩
    rcases hx with ⟨d, hx, hd, hw⟩ | ⟨a2, rfl, ha2, hn⟩
    · refine ⟨_, rfl, x, rfl, .inl ⟨d, G, sG, hx, hd, hw, fun y G' Hc s1 mo sG' hy => ⟨_, rfl, a, A.a_Clash, rfl, T.xCl, T.nCl, .inl ⟨s1 _ _ ha, fun dx h1 h2 => k y Hc dx s1 h1 h2 fun H' hh => .inl ⟨d, ?_, ?_, hd, hw⟩⟩⟩⟩⟩
      · exact dpSame (fun b u e => hh b u (s1 _ _ (sG _ _ e)) fun z => by rw [z, ga] at e; cases e) hx
      · refine dpSame (fun b u e => hh b u (sG' _ _ e) fun z => ?_) hy
        subst z
        rcases mo.new b (by rw [e]; exact fun z => nomatch z) with z | z
        · exact z ga
        · rw [ha] at z; cases z
    · refine ⟨_, rfl, _, rfl, .inr ⟨a2, rfl, ha2, hn, fun b Hc s1 hb0 hb => ⟨_, rfl, a, A.a_Clash, rfl, T.xCl, T.nCl, .inl ⟨s1 _ _ ha, fun dx h1 h2 => k _ Hc dx s1 h1 h2 fun H' hh => .inr ⟨a2, b, rfl, rfl, ?_, ?_⟩⟩⟩⟩⟩
      · exact hh _ _ (s1 _ _ ha2) fun z => by rw [z, ha] at ha2; exact exo_dK (Option.some.inj ha2)
      · exact hh _ _ hb fun z => by rw [z, ha] at hb0; cases hb0
end
end K5
set_option Elab.async false
set_option linter.all false
set_option maxRecDepth 100000
set_option maxHeartbeats 4000000
namespace K5
open PySem L2
local macro_rules | `(tactic| walk_at "rd1") => `(tactic| first
  | refine ⟨_, _, rfl, rfl, ?_⟩
  | refine ⟨_, _, _, _, rfl, rfl, SqL.of (by assumption), rfl, ?_⟩
  | refine ⟨_, _, _, _, rfl, rfl, (by assumption), rfl, ?_⟩
  | refine .inl ⟨_, rfl, ?_⟩
  | refine ⟨_, rfl, ?_⟩
  | refine ⟨(by unfold CMul; omega), ?_⟩
  | refine ⟨(by unfold CPow; omega), ?_⟩
  | refine ⟨(by (try dsimp only); omega), ?_⟩
  | refine ⟨(by unfold CDiv; omega), ?_⟩
  | fail "rd1")
local macro_rules | `(tactic| walk_at "rd") => `(tactic| repeat' (walk_at "rd1"))
section
variable {P : Program} {w : World} {K : PySem.W.Frag} {mg : Str → Option Value} {base : Heap} {A : Ad}

open Own
/-! ### numbers of wishes -/
def spIsIntT (K : PySem.W.Frag) : Sp := fun vs H Q _ => ∃ (x : V) (t : String), vs = [x] ∧ TyX K H x (.type t) ∧ ((t = "int" ∧ Q (.bl true) H) ∨ (t = "bool" ∧ Q (.bl false) H) ∨ (kitB t "int" = some false ∧ Q (.bl false) H))
theorem ok_isintT (T : Txt K mg A) : FnOk P w K mg base CX0 1 A.a_is_integer A.d_is_integer P_is_integer (spIsIntT K) := by
  refine T.f_is_integer.ok sc_is_integer (fun vs H Q E h => ?_) (fun cdv A' outer s H vs Q E hr h => ?_)
  · obtain ⟨x, t, rfl, _⟩ := h
    rfl
  · obtain ⟨x, t, rfl, hx, h⟩ := h
    refine ⟨_, (pss_one (ps_ret (pe_and (pe_callB call_isi (by rfl) T.isinstance (by decide +kernel) (pa_cons (pv 0) (pa_cons (pe_bltn (v := .ty "int") (u := .type "int") (by rfl) T.int (by decide +kernel) rfl) pa_nil))) (pe_one (pe_not (pe_callB call_isi (by rfl) T.isinstance (by decide +kernel) (pa_cons (pv 0) (pa_cons (pe_bltn (v := .ty "bool") (u := .type "bool") (by rfl) T.bool (by decide +kernel) rfl) pa_nil)))))))), ?_⟩
    rcases h with ⟨rfl, k⟩ | ⟨rfl, k⟩ | ⟨e, k⟩
    · exact ⟨_, rfl, _, _, .type "int", _, true, rfl, .ty _, hx, kit_ty (by decide +kernel), _, rfl, iteT ⟨_, rfl, _, _, .type "int", _, false, rfl, .ty _, hx, kit_ty (by decide +kernel), _, rfl, k⟩⟩
    · exact ⟨_, rfl, _, _, .type "bool", _, true, rfl, .ty _, hx, kit_ty (by decide +kernel), _, rfl, iteT ⟨_, rfl, _, _, .type "bool", _, true, rfl, .ty _, hx, kit_ty (by decide +kernel), _, rfl, k⟩⟩
    · exact ⟨_, rfl, _, _, .type t, _, false, rfl, .ty _, hx, kit_ty e, _, rfl, iteF k⟩
/-- what is no number of a wish -/
def NoIx (K : PySem.W.Frag) (H : Hp) (n : Nat) (x : V) : Prop := (∃ i : Int, x = .int i ∧ (i < 0 ∨ (n : Int) ≤ i)) ∨ ∃ t, TyX K H x (.type t) ∧ (t = "bool" ∨ kitB t "int" = some false)
def spIsIdx (K : PySem.W.Frag) : Sp := fun vs H Q _ => ∃ (x : V) (q : Addr) (ws : List V), vs = [x, .ref q] ∧ SqT K H q ws ∧ ((∃ i : Nat, x = .int (i : Int) ∧ i < ws.length ∧ Q (.bl true) H) ∨ (NoIx K H ws.length x ∧ Q (.bl false) H))
theorem ok_isidx (T : Txt K mg A) : FnOk P w K mg base CX0 2 A.a_is_index A.d_is_index P_is_index (spIsIdx K) := by
  have G_is_integer : FnOk P w K mg base CX0 1 A.a_is_integer A.d_is_integer P_is_integer (spIsIntT K) := ok_isintT T
  refine T.f_is_index.ok sc_is_index (fun vs H Q E h => ?_) (fun cdv A' outer s H vs Q E hr h => ?_)
  · obtain ⟨x, q, ws, rfl, _⟩ := h
    rfl
  · obtain ⟨x, q, ws, rfl, hq, h⟩ := h
    refine ⟨_, (pss_one (ps_ret (pe_and (pe_call G_is_integer (hr.mono (by omega)) (by rfl) T.g_is_integer T.f_is_integer.kp T.b_is_integer .nil pass0 (pa_cons (pv 0) pa_nil)) (pe_one (pe_chain op_le op_lt pe_int (pv 0) (pe_callB call_len_seq (by rfl) T.len PySem.boot_len (pa_cons (pv 1) pa_nil))))))), ?_⟩
    rcases h with ⟨i, rfl, hi, k⟩ | ⟨⟨i, rfl, hi⟩ | ⟨t, ht, e⟩, k⟩
    · refine ⟨_, rfl, _, "int", rfl, .base (.int _), .inl ⟨rfl, _, rfl, iteT ?_⟩⟩
      refine ⟨_, rfl, _, _, rfl, rfl, _, rfl, ite2 (fun _ => ?_) (fun z => (z (decide_eq_true (by omega))).elim)⟩
      refine ⟨_, rfl, q, _, rfl, .inr hq, _, _, rfl, rfl, ?_⟩
      show Q (.bl (decide ((i : Int) < (ws.length : Int)))) H
      rw [decide_eq_true (show (i : Int) < (ws.length : Int) by omega)]
      exact k
    · refine ⟨_, rfl, _, "int", rfl, .base (.int _), .inl ⟨rfl, _, rfl, iteT ?_⟩⟩
      refine ⟨_, rfl, _, _, rfl, rfl, _, rfl, ite2 (fun z => ?_) (fun z => ?_)⟩
      · have z : 0 ≤ i := of_decide_eq_true z
        refine ⟨_, rfl, q, _, rfl, .inr hq, _, _, rfl, rfl, ?_⟩
        show Q (.bl (decide (i < (ws.length : Int)))) H
        rw [decide_eq_false (show ¬ i < (ws.length : Int) by omega)]
        exact k
      · exact k
    · rcases e with rfl | e
      · exact ⟨_, rfl, _, "bool", rfl, ht, .inr (.inl ⟨rfl, _, rfl, iteF k⟩)⟩
      · exact ⟨_, rfl, _, t, rfl, ht, .inr (.inr ⟨e, _, rfl, iteF k⟩)⟩
def spChkDish (K : PySem.W.Frag) : Sp := fun vs H Q _ => ∃ (n : Str) (dd : Addr) (kvs : List (Key × V)), vs = [.str n, .ref dd] ∧ Rd H dd (.dK kvs) ∧ (valV kvs (.inr n)).isSome = true ∧ Q .non H
theorem ok_chkdish (T : Txt K mg A) : FnOk P w K mg base CX0 2 A.a_check_dish A.d_check_dish P_check_dish (spChkDish K) := by
  have G_is_dish : FnOk P w K mg base CX0 1 A.a_is_dish A.d_is_dish P_is_dish (spIsDish K) := ok_isdish T
  refine T.f_check_dish.ok sc_check_dish (fun vs H Q E h => ?_) (fun cdv A' outer s H vs Q E hr h => ?_)
  · obtain ⟨n, dd, kvs, rfl, _⟩ := h
    rfl
  · obtain ⟨n, dd, kvs, rfl, hd, hs, k⟩ := h
    refine ⟨_, (pss_one (ps_if (pt_not (pt_val (pe_call G_is_dish (hr.mono (by omega)) (by rfl) T.g_is_dish T.f_is_dish.kp T.b_is_dish .nil pass0 (pa_cons (pv 0) (pa_cons (pv 1) pa_nil)))))
 (pss_one ps_never)
 pss_nil)), ?_⟩
    refine ⟨_, rfl, _, rfl, _, dd, kvs, rfl, hd, .inl ⟨n, rfl, _, rfl, ?_⟩⟩
    rw [hs]
    exact iteF k
/-- what a meal is made of -/
structure MlIn (K : PySem.W.Frag) (C : Addr) (H : Hp) (p : Addr) (ys : List Str) (lo hi : Str → Int) (ds es : List PyData) : Prop where
  m : MlAt K C H p ys lo hi ds es
  nd : ys.Nodup
  nm : ∀ n ∈ ys, (Nm n ∧ PyData.strOk n = true) ∧ 1 ≤ lo n ∧ lo n ≤ hi n
  yl : ys.length ≤ 30
  srt : PyProof.Rows.sortedS ys = true
  w : ∀ d ∈ ds, WshN ys d
  dl : ds.length ≤ 30
  s : ∀ d ∈ es, StnN ys d
  el : es.length ≤ 30
theorem MlIn.up {C : Addr} {H H' : Hp} {p : Addr} {ys : List Str} {lo hi : Str → Int} {ds es : List PyData} (h : MlIn K C H p ys lo hi ds es) (s : Same H H') : MlIn K C H' p ys lo hi ds es := ⟨h.m.up s, h.nd, h.nm, h.yl, h.srt, h.w, h.dl, h.s, h.el⟩
theorem cutT {xs : List V} {k : Nat} (h : k ≤ xs.length) : cutV xs none (some (k : Int)) = xs.take k := by
  unfold cutV
  rw [HT.sIx_none, HT.sIx_nat, List.drop_zero, Nat.sub_zero, Nat.min_eq_left h]
theorem cutD {xs : List V} {k : Nat} (h : k ≤ xs.length) : cutV xs (some (k : Int)) none = xs.drop k := by
  unfold cutV
  rw [HT.sIx_none, HT.sIx_nat, Nat.min_eq_left h, List.take_of_length_le (by rw [List.length_drop]; exact Nat.le_refl _)]
theorem dpAll_take {H : Hp} : ∀ {vs : List V} {ds : List PyData} (k : Nat), DpAll K H vs ds → DpAll K H (vs.take k) (ds.take k)
  | _, _, 0, _ => by rw [List.take_zero, List.take_zero]; exact .nil
  | _, _, k + 1, .nil => .nil
  | _, _, k + 1, .cons a b => .cons a (dpAll_take k b)
theorem dpAll_dropN {H : Hp} : ∀ {vs : List V} {ds : List PyData} (k : Nat), DpAll K H vs ds → DpAll K H (vs.drop k) (ds.drop k)
  | _, _, 0, h => h
  | _, _, k + 1, .nil => .nil
  | _, _, k + 1, .cons a b => dpAll_dropN k b
theorem dpAll_cat {H : Hp} : ∀ {vs us : List V} {ds es : List PyData}, DpAll K H vs ds → DpAll K H us es → DpAll K H (vs ++ us) (ds ++ es)
  | _, _, _, _, .nil, h => h
  | _, _, _, _, .cons a b, h => .cons a (dpAll_cat b h)
theorem rslA_of {H : Hp} {a : Addr} {xs : List V} {lo hi : Option Int} {Q : VK} (h : SqT K H a xs) (k : ∀ a1 H1, Same H H1 → SqT K H1 a1 (cutV xs lo hi) → Q (.ref a1) H1) : rSlA K (.ref a) lo hi H Q :=
  ⟨a, xs, rfl, h, fun ⟨e1, e2⟩ => k a H (Same.refl _) (by
    have : cutV xs lo hi = xs := by unfold cutV; rw [e1, e2, List.drop_zero, Nat.sub_zero, List.take_length]
    rw [this]; exact h), fun _ p np => k p _ (Same.new np) (SqT.of upd_same)⟩
theorem rcatA_of {H : Hp} {a b : Addr} {xs ys : List V} {Q : VK} (h1 : SqT K H a xs) (h2 : SqT K H b ys) (l : xs.length + ys.length ≤ sizeLine) (k : ∀ c H1, Same H H1 → SqT K H1 c (xs ++ ys) → Q (.ref c) H1) : rCatA K (.ref a) (.ref b) H Q := by
  refine ⟨a, b, xs, ys, rfl, rfl, h1, h2, l, fun e => ?_, fun _ e => ?_, fun _ _ p np => ?_⟩
  · subst e; exact k b H (Same.refl _) h2
  · subst e; exact k a H (Same.refl _) (by rw [List.append_nil]; exact h1)
  · exact k p _ (Same.new np) (SqT.of upd_same)
theorem small {n : Nat} (h : n ≤ 64) : n ≤ sizeLine := Nat.le_trans h (by decide)
/-- an exception is made: what the def's own field is -/
theorem exc_fin {H : Hp} {C a : Addr} {n : Nat} {f : Str} {x y : V} {Hc : Hp} {dd : Addr} {E : XK} (na : H a = none) (s1 : Same (upd H a (exo a C none)) Hc) (h1 : Hc dd = none) (h2 : dd ≠ a) (hs : ∀ H', (∀ b u, Hc b = some u → b ≠ a → H' b = some u) → SD K n H' x y)
    (k : ∀ y dd H', Same H H' → H' dd = some (.xd [(f, y)]) → SD K n H' x y → E (.ref C) (some dd) H') : ∀ H2 : Hp, H2 = upd (upd Hc dd (exd dd [(f, y)])) a (exo a C (some dd)) →
    H2 a = some (exo a C (some dd)) ∧ H2 dd = some (exd dd [(f, y)]) ∧ H dd = none ∧ E (.ref C) (some dd) (upd (del H2 a) dd (.xd [(f, y)])) := by
  rintro H2 rfl
  have sH : Same H Hc := (Same.new na).trans s1
  have keep : ∀ b u, Hc b = some u → b ≠ a → upd (del (upd (upd Hc dd (exd dd [(f, y)])) a (exo a C (some dd))) a) dd (.xd [(f, y)]) b = some u := fun b u e ne => by
    have nd2 : b ≠ dd := fun z => by rw [z, h1] at e; cases e
    rw [upd_ne nd2, del_ne ne, upd_ne ne, upd_ne nd2]
    exact e
  refine ⟨upd_same, by rw [upd_ne h2, upd_same], sH.free h1, k y dd _ (fun b u e => keep b u (sH _ _ e) fun z => by rw [z, na] at e; cases e) upd_same (hs _ keep)⟩
theorem exc_pre {H G : Hp} {C a : Addr} {n : Nat} {x : V} (na : H a = none) (sG : Same G H) (hx : (∃ d, Dp K G x d ∧ d.depth < n ∧ wid d = true) ∨ ∃ a, x = .ref a ∧ H a = some (.dK []) ∧ 0 < n) : Cpre K n G (upd H a (exo a C none)) x :=
  ⟨sG.trans (Same.new na), hx.imp_right fun ⟨a2, e, h2, h3⟩ => ⟨a2, e, Same.new na _ _ h2, h3⟩⟩
/-- meal.less(k) -/
def spLess (K : PySem.W.Frag) (n : Nat) (C CW : Addr) : Sp := fun vs H Q E => ∃ (p : Addr) (x : V) (ys : List Str) (lo hi : Str → Int) (ds es : List PyData), vs = [.ref p, x] ∧ MlIn K C H p ys lo hi ds es ∧
  ((∃ k : Nat, x = .int (k : Int) ∧ k < ds.length ∧ ∀ p2 H', Same H H' → MlIn K C H' p2 ys lo hi (ds.take k ++ ds.drop (k + 1)) es → Q (.ref p2) H') ∨
   (∃ G, Cpre K n G H x ∧ NoIx K H ds.length x ∧ ∀ y dd H', Same H H' → H' dd = some (.xd [("index", y)]) → SD K n H' x y → E (.ref CW) (some dd) H'))
theorem ok_less (T : Txt K mg A) (n : Nat) : FnOk P w K mg base (L2.CX P w) (n + 7) A.a_Meal_less A.d_Meal_less P_Meal_less (spLess K n A.a_Meal A.a_NoWish) := by
  have G_is_index : FnOk P w K mg base CX0 2 A.a_is_index A.d_is_index P_is_index (spIsIdx K) := ok_isidx T
  have G_NoWish___init__ : FnOk P w K mg base CX0 (n + 1) A.a_NoWish___init__ A.d_NoWish___init__ P_NoWish___init__ (spNWI K n A.a_NoWish) := ok_nwi T n
  have G_Meal___init__ : FnOk P w K mg base CX0 5 A.a_Meal___init__ A.d_Meal___init__ P_Meal___init__ (spInit K A.a_Meal) := ok_init T
  refine T.f_Meal_less.okX sc_Meal_less (fun vs H Q E h => ?_) (fun cdv A' outer s H vs Q E hr h => ?_)
  · obtain ⟨p, x, ys, lo, hi, ds, es, rfl, _⟩ := h
    rfl
  · obtain ⟨p, x, ys, lo, hi, ds, es, rfl, M, h⟩ := h
    obtain ⟨dx, qb, qw, qp, kvs, ws, ps, hp, hb, hP, hw, hA, hq, hZ⟩ := M.m.ex
    refine ⟨_, (pss_cons (ps_if (pt_not (pt_val (pe_call G_is_index (hr.mono (by omega)) (by rfl) T.g_is_index T.f_is_index.kp T.b_is_index .nil pass0 (pa_cons (pv 1) (pa_cons (pe_fld (pv 0) rfl) pa_nil)))))
 (pss_one (ps_raise rfl (takes_of rfl rfl rfl rfl) (pmk_oex T.xWi T.iWi T.tWi G_NoWish___init__ (hr.mono (by omega)) T.b_NoWish___init__ .nil pass0 (by rfl) T.g_NoWish (pa_cons (pv 1) pa_nil))))
 pss_nil)
 (PSs.nox (pss_one (ps_ret (pe_make T.mkM G_Meal___init__ (hr.mono (by omega)) (by rfl) T.g_Meal T.b_Meal___init__ .nil pass0 (pa_cons (pe_fld (pv 0) rfl) (pa_cons (pe_op op_catA (pe_slice sl_tupA (pe_fld (pv 0) rfl) po_none (po_some (pv 1))) (pe_slice sl_tupA (pe_fld (pv 0) rfl) (po_some (pe_op op_add (pv 1) pe_int)) po_none)) (pa_cons (pe_fld (pv 0) rfl) pa_nil)))))))), ?_⟩
    have wl : ws.length = ds.length := dpLen hA
    refine ⟨_, rfl, _, rfl, p, A.a_Meal, dx, _, _, rfl, hp, T.cl_M, T.nW, by rfl, x, qw, ws, rfl, hw, ?_⟩
    rcases h with ⟨k, rfl, hk, kk⟩ | ⟨G, ⟨sG, hx⟩, hno, k⟩
    · refine .inl ⟨k, rfl, by omega, _, rfl, iteF ?_⟩
      refine ⟨_, rfl, p, A.a_Meal, dx, _, _, rfl, hp, T.cl_M, T.nB, by rfl, ?_⟩
      refine ⟨_, rfl, p, A.a_Meal, dx, _, _, rfl, hp, T.cl_M, T.nW, by rfl, _, rfl, _, rfl, rslA_of hw fun a1 H1 s1 q1 => ?_⟩
      refine ⟨_, rfl, p, A.a_Meal, dx, _, .ref qw, rfl, s1 _ _ hp, T.cl_M, T.nW, by rfl, _, rfl, _, _, rfl, rfl, _, rfl, ?_⟩
      dsimp only [tNoPart]
      refine rslA_of (lo := some ((k : Int) + 1)) (hi := none) (stUp hw s1) fun a2 H2 s2 q2 => ?_
      rw [cutT (show k ≤ ws.length by omega)] at q1
      rw [show ((k : Int) + 1) = ((k + 1 : Nat) : Int) by omega, cutD (show k + 1 ≤ ws.length by omega)] at q2
      refine rcatA_of (stUp q1 s2) q2 (by rw [List.length_take, List.length_drop]; exact small (by have := M.dl; omega)) fun a3 H3 s3 q3 => ?_
      have S3 := (s1.trans s2).trans s3
      have hWk : ∀ d ∈ ds.take k ++ ds.drop (k + 1), WshN ys d := fun d m => (List.mem_append.mp m).elim (fun m => M.w d (List.mem_of_mem_take m)) fun m => M.w d (List.mem_of_mem_drop m)
      have lk : (ds.take k ++ ds.drop (k + 1)).length ≤ 30 := by
        rw [List.length_append, List.length_take, List.length_drop]; have := M.dl; omega
      refine ⟨_, rfl, p, A.a_Meal, dx, _, _, rfl, S3 _ _ hp, T.cl_M, T.nP, by rfl, mk_meal (S3 _ _ hb) (hP.up S3).x M.nd M.nm (by have := M.yl; omega) (.inr q3) (dpAllSame S3 (dpAll_cat (dpAll_take k hA) (dpAll_dropN (k + 1) hA))) (stripAll_tp _ (tpAll_w hWk)) (by omega) hWk (.inr (stUp hq S3)) (dpAllSame S3 hZ) (stripAll_tp _ (tpAll_s M.s)) (by have := M.el; omega) M.s (fun p2 H4 ys2 np2 s4 MN yp2 ysr2 => ?_)⟩
      rw [asc_eq yp2 ysr2 (sle_sorted M.srt)] at MN
      exact kk p2 H4 (S3.trans s4) ⟨MN _ KeepM.refl, M.nd, M.nm, M.yl, M.srt, hWk, lk, M.s, M.el⟩
    · refine .inr ⟨by rw [wl]; exact hno, _, rfl, iteT ?_⟩
      exact ⟨_, rfl, by show 1 ≤ 1000; decide, fun a na => ⟨a, _, G, rfl, upd_same, sG.free na, exc_pre na sG hx, fun y Hc dd s1 h1 h2 h3 => ⟨rfl, dd, _, exc_fin na s1 h1 h2 h3 k _ rfl⟩⟩⟩
end
end K5
set_option Elab.async false
set_option linter.all false
set_option maxRecDepth 100000
set_option maxHeartbeats 4000000
namespace K5
open PySem L2
local macro_rules | `(tactic| walk_at "rd1") => `(tactic| first
  | refine ⟨_, _, rfl, rfl, ?_⟩
  | refine ⟨_, _, _, _, rfl, rfl, SqL.of (by assumption), rfl, ?_⟩
  | refine ⟨_, _, _, _, rfl, rfl, (by assumption), rfl, ?_⟩
  | refine .inl ⟨_, rfl, ?_⟩
  | refine ⟨_, rfl, ?_⟩
  | refine ⟨(by unfold CMul; omega), ?_⟩
  | refine ⟨(by unfold CPow; omega), ?_⟩
  | refine ⟨(by (try dsimp only); omega), ?_⟩
  | refine ⟨(by unfold CDiv; omega), ?_⟩
  | fail "rd1")
local macro_rules | `(tactic| walk_at "rd") => `(tactic| repeat' (walk_at "rd1"))
section
variable {P : Program} {w : World} {K : PySem.W.Frag} {mg : Str → Option Value} {base : Heap} {A : Ad}

open Own
theorem merge_all : ∀ (kvs acc : List (Key × V)), ((acc ++ kvs).map (·.1)).Nodup → mergeK acc kvs = acc ++ kvs
  | [], acc, _ => (List.append_nil acc).symm
  | (k, v) :: r, acc, h => by
    have e : mergeK acc ((k, v) :: r) = mergeK (putK acc k v) r := rfl
    have e2 : (acc ++ (k, v) :: r) = (acc ++ [(k, v)]) ++ r := by rw [List.append_assoc]; rfl
    rw [e2] at h
    have hn : k ∉ acc.map (·.1) := fun m => by
      rw [List.map_append, List.map_append, List.append_assoc] at h
      exact (List.nodup_append.mp h).2.2 _ m _ (List.mem_append_left _ (List.mem_singleton.mpr rfl)) rfl
    rw [e, put_new acc k v hn, merge_all r _ h, e2]
theorem paired_snoc {α β : Type} {R : α → β → Prop} : ∀ {xs : List α} {ys : List β} {x : α} {y : β}, Paired R xs ys → R x y → Paired R (xs ++ [x]) (ys ++ [y])
  | _, _, _, _, .nil, h => .cons h .nil
  | _, _, _, _, .cons a b, h => .cons a (paired_snoc b h)
theorem paired_imp {α β : Type} {R S : α → β → Prop} (f : ∀ a b, R a b → S a b) : ∀ {xs : List α} {ys : List β}, Paired R xs ys → Paired S xs ys
  | _, _, .nil => .nil
  | _, _, .cons a b => .cons (f _ _ a) (paired_imp f b)

theorem Sta.at_ {H : Hp} {st c t : Addr} {b : Int} {u o : HO} (h : Sta H st c b) (ht : er H st t = some u) (hu : ∀ xs, u ≠ .lst xs) : Sta (upd H t o) st c b := by
  obtain ⟨cs, i, l, m, n, h1, h2, h3⟩ := h.ex
  have ns := (er_some ht).1
  have nc : c ≠ t := fun e => by rw [e, ht] at h2; exact hu _ (Option.some.inj h2)
  exact ⟨cs, i, l, m, n, by rw [upd_ne ns.symm]; exact h1, by rw [er_updp ns, upd_ne nc]; exact h2, h3⟩
theorem Gs.unlock {H H' : Hp} {st c t : Addr} {b b0 : Int} {u o : HO} (S0 : Sta H st c b0) (ht : er H st t = some u) (hu : ∀ xs, u ≠ .lst xs) (g : Gs st c (upd H t o) H' b) : Gs st c H (upd H' t u) b := by
  have ns := (er_some ht).1
  obtain ⟨cs0, i0, l0, m0, n0, _, c0, _⟩ := S0.ex
  have nc : c ≠ t := fun e => by rw [e, ht] at c0; exact hu _ (Option.some.inj c0)
  obtain ⟨cs, i, l, m, n, h1, h2, h3⟩ := g.sta.ex
  refine ⟨⟨cs, i, l, m, n, by rw [upd_ne ns.symm]; exact h1, by rw [er_updp ns, upd_ne nc]; exact h2, h3⟩, fun x v e => ?_⟩
  rw [er_updp ns]
  by_cases hx : x = t
  · subst hx; rw [upd_same]; rw [ht] at e; exact e
  · rw [upd_ne hx]
    exact g.same _ _ (by rw [er_updp ns, upd_ne hx]; exact e)
theorem unfrz {H H' : Hp} {d : Addr} {u o : HO} (hd : H d = some u) (s : Same (upd H d o) H') : Same H (upd H' d u) := fun b v e => by
  by_cases hb : b = d
  · subst hb; rw [upd_same]; rw [hd] at e; exact e
  · rw [upd_ne hb]; exact s _ _ (by rw [upd_ne hb]; exact e)
theorem keysV {kvs : List (Key × V)} {ns : List Str} (h : kvs.map (·.1) = ns.map Sum.inr) : (kvs.map fun kv => kV kv.1) = ns.map V.str := by
  have : (kvs.map fun kv => kV kv.1) = (kvs.map (·.1)).map kV := by rw [List.map_map]; rfl
  rw [this, h, List.map_map]; rfl
theorem eqv_strs_refl (ss : List Str) : PyData.eqv (.list (ss.map PyData.str)) (.list (ss.map PyData.str)) = true := by
  have h : ∀ ss : List Str, PyData.eqvAll (ss.map PyData.str) (ss.map PyData.str) = true := fun ss => by
    induction ss with
    | nil => simp [PyData.eqvAll]
    | cons s ss ih => simp [PyData.eqvAll, PyData.eqv, ih]
  simp [PyData.eqv, h]
theorem putK_old {kvs : List (Key × V)} {k : Key} {v : V} (h : k ∈ kvs.map (·.1)) : putK kvs k v = kvs.map fun kv => if kv.1 = k then (kv.1, v) else kv := by
  unfold putK
  rw [if_pos]
  obtain ⟨kv, m, e⟩ := List.mem_map.mp h
  exact List.any_eq_true.mpr ⟨kv, m, decide_eq_true e⟩

theorem Pr2.put2 {H : Hp} {ns : List Str} {f g : Str → V} {kvs : List (Key × V)} {n : Str} {a : Addr} {u v : V} (h : Pr2 K H ns f g kvs) (m : n ∈ ns) (ha : SqT K H a [u, v]) : Pr2 K H ns (fun x => if x = n then u else f x) (fun x => if x = n then v else g x) (putK kvs (.inr n) (.ref a)) := by
  rw [putK_old (by rw [h.keys]; exact List.mem_map.mpr ⟨n, m, rfl⟩)]
  refine ⟨?_, fun i x e => ?_⟩
  · rw [List.map_map, ← h.keys]
    refine List.map_congr_left fun kv _ => ?_
    show (if kv.1 = .inr n then (kv.1, V.ref a) else kv).1 = kv.1
    split <;> rfl
  · obtain ⟨b, e1, e2⟩ := h.at_ i x e
    rw [List.getElem?_map, e1]
    by_cases q : x = n
    · subst q
      refine ⟨a, ?_, ?_⟩
      · show some (if (Sum.inr x : Key) = Sum.inr x then _ else _) = _
        rw [if_pos rfl]
      · show SqT K H a [if x = x then u else f x, if x = x then v else g x]
        rw [if_pos rfl, if_pos rfl]; exact ha
    · refine ⟨b, ?_, ?_⟩
      · show some (if (Sum.inr x : Key) = Sum.inr n then _ else _) = _
        rw [if_neg fun z => q (Sum.inr.inj z)]
      · show SqT K H b [if x = n then u else f x, if x = n then v else g x]
        rw [if_neg q, if_neg q]; exact e2
theorem Pr2.cat {H : Hp} {ns ms : List Str} {f g : Str → V} {ks ls : List (Key × V)} (h1 : Pr2 K H ns f g ks) (h2 : Pr2 K H ms f g ls) : Pr2 K H (ns ++ ms) f g (ks ++ ls) := by
  refine ⟨by rw [List.map_append, List.map_append, h1.keys, h2.keys], fun i n e => ?_⟩
  rcases Nat.lt_or_ge i ns.length with lt | ge
  · rw [List.getElem?_append_left lt] at e
    rw [List.getElem?_append_left (by rw [h1.len]; exact lt)]
    exact h1.at_ i n e
  · rw [List.getElem?_append_right ge] at e
    rw [List.getElem?_append_right (by rw [h1.len]; exact ge), h1.len]
    exact h2.at_ _ n e
theorem ifInt (c : Prop) [Decidable c] (a b : Int) : (if c then V.int a else .int b) = V.int (if c then a else b) := by split <;> rfl
/-- meal.more(wishes) -/
def spMore (K : PySem.W.Frag) (C : Addr) : Sp := fun vs H Q _ => ∃ (p a : Addr) (ys : List Str) (lo hi : Str → Int) (ds es : List PyData) (xs : List V) (dw : List PyData), vs = [.ref p, .ref a] ∧ MlIn K C H p ys lo hi ds es ∧ SqX K H a xs ∧ DpAll K H xs dw ∧ (∀ d ∈ stripAll dw, WshN ys d) ∧ ds.length + dw.length ≤ 30 ∧
  ∀ p2 H', Same H H' → MlIn K C H' p2 ys lo hi (ds ++ stripAll dw) es → Q (.ref p2) H'
theorem ok_more (T : Txt K mg A) : FnOk P w K mg base CX0 7 A.a_Meal_more A.d_Meal_more P_Meal_more (spMore K A.a_Meal) := by
  have G_check_wishes : FnOk P w K mg base CX0 4 A.a_check_wishes A.d_check_wishes P_check_wishes (spChkW K) := ok_chkw T
  have G_Meal___init__ : FnOk P w K mg base CX0 5 A.a_Meal___init__ A.d_Meal___init__ P_Meal___init__ (spInit K A.a_Meal) := ok_init T
  refine T.f_Meal_more.ok sc_Meal_more (fun vs H Q E h => ?_) (fun cdv A' outer s H vs Q E hr h => ?_)
  · obtain ⟨p, a, ys, lo, hi, ds, es, xs, dw, rfl, _⟩ := h
    rfl
  · obtain ⟨p, a, ys, lo, hi, ds, es, xs, dw, rfl, M, ha, hX, hW, hl, k⟩ := h
    obtain ⟨dx, qb, qw, qp, kvs, ws, ps, hp, hb, hP, hw, hA, hq, hZ⟩ := M.m.ex
    refine ⟨_, (pss_cons (ps_expr (pe_call G_check_wishes (hr.mono (by omega)) (by rfl) T.g_check_wishes T.f_check_wishes.kp T.b_check_wishes .nil pass0 (pa_cons (pv 1) (pa_cons (pe_fld (pv 0) rfl) pa_nil))))
 (pss_one (ps_ret (pe_make T.mkM G_Meal___init__ (hr.mono (by omega)) (by rfl) T.g_Meal T.b_Meal___init__ .nil pass0 (pa_cons (pe_fld (pv 0) rfl) (pa_cons (pe_lst (StX.pa_star (pe_fld (pv 0) rfl) (StX.pa_star (pv 1) pa_nil))) (pa_cons (pe_fld (pv 0) rfl) pa_nil))))))), ?_⟩
    have iK := hP.x.inK M.nd fun n m => (M.nm n m).1.2
    have wl := dpLen hA
    have xl := dpLen hX
    refine ⟨_, rfl, _, rfl, p, A.a_Meal, dx, _, .ref qb, rfl, hp, T.cl_M, T.nB, by rfl, a, qb, xs, dw, kvs, rfl, ha, hX, strip_atAll rfl (fun d m => (hW d m).at iK), .inl hb, fun H1 s1 => ?_⟩
    refine ⟨_, rfl, p, A.a_Meal, dx, _, .ref qb, rfl, s1 _ _ hp, T.cl_M, T.nB, by rfl, ?_⟩
    refine ⟨_, rfl, p, A.a_Meal, dx, _, .ref qw, rfl, s1 _ _ hp, T.cl_M, T.nW, by rfl, qw, ws, rfl, .inl (stUp hw s1), _, rfl, a, xs, rfl, (sxUp ha s1).symm, ?_⟩
    refine ⟨by show (ws ++ (xs ++ [])).length ≤ sizeLine; rw [List.append_nil, List.length_append]; exact small (by omega), fun l nl => ?_⟩
    rw [List.append_nil]
    have s2 := s1.trans (Same.new nl (o := .lst (ws ++ xs)))
    have hl2 : upd H1 l (.lst (ws ++ xs)) l = some (.lst (ws ++ xs)) := upd_same
    generalize upd H1 l (.lst (ws ++ xs)) = H2 at s2 hl2 ⊢
    have hW2 : ∀ d ∈ ds ++ stripAll dw, WshN ys d := fun d m => (List.mem_append.mp m).elim (M.w d) (hW d)
    have es2 : stripAll (ds ++ dw) = ds ++ stripAll dw := by
      rw [stripAll_map, List.map_append, ← stripAll_map, ← stripAll_map, stripAll_tp ds (tpAll_w M.w)]
    have l2 : (ds ++ stripAll dw).length ≤ 30 := by rw [List.length_append, stripAll_map, List.length_map]; exact hl
    refine ⟨_, rfl, p, A.a_Meal, dx, _, .ref qp, rfl, s2 _ _ hp, T.cl_M, T.nP, by rfl, mk_meal (s2 _ _ hb) (hP.up s2).x M.nd M.nm (by have := M.yl; omega) (.inl (SqL.of hl2)) (dpAllSame s2 (dpAll_cat hA hX)) es2 (by omega) hW2 (.inr (stUp hq s2)) (dpAllSame s2 hZ) (stripAll_tp _ (tpAll_s M.s)) (by have := M.el; omega) M.s (fun p2 H4 ys2 np2 s4 MN yp2 ysr2 => ?_)⟩
    rw [asc_eq yp2 ysr2 (sle_sorted M.srt)] at MN
    exact k p2 H4 (s2.trans s4) ⟨MN _ KeepM.refl, M.nd, M.nm, M.yl, M.srt, hW2, l2, M.s, M.el⟩
/-- meal.taking(name, least, most) -/
def spTaking (K : PySem.W.Frag) (C : Addr) : Sp := fun vs H Q _ => ∃ (p : Addr) (n : Str) (l m : Int) (ys : List Str) (lo hi : Str → Int) (ds es : List PyData), vs = [.ref p, .str n, .int l, .int m] ∧ MlIn K C H p ys lo hi ds es ∧ n ∈ ys ∧ 1 ≤ l ∧ l ≤ m ∧
  ∀ p2 H', Same H H' → MlIn K C H' p2 ys (fun x => if x = n then l else lo x) (fun x => if x = n then m else hi x) ds es → Q (.ref p2) H'
theorem ok_taking (T : Txt K mg A) : FnOk P w K mg base CX0 7 A.a_Meal_taking A.d_Meal_taking P_Meal_taking (spTaking K A.a_Meal) := by
  have G_check_dish : FnOk P w K mg base CX0 2 A.a_check_dish A.d_check_dish P_check_dish (spChkDish K) := ok_chkdish T
  have G_Meal___init__ : FnOk P w K mg base CX0 5 A.a_Meal___init__ A.d_Meal___init__ P_Meal___init__ (spInit K A.a_Meal) := ok_init T
  refine T.f_Meal_taking.ok sc_Meal_taking (fun vs H Q E h => ?_) (fun cdv A' outer s H vs Q E hr h => ?_)
  · obtain ⟨p, n, l, m, ys, lo, hi, ds, es, rfl, _⟩ := h
    rfl
  · obtain ⟨p, n, l, m, ys, lo, hi, ds, es, rfl, M, hn, l1, l2, k⟩ := h
    obtain ⟨dx, qb, qw, qp, kvs, ws, ps, hp, hb, hP, hw, hA, hq, hZ⟩ := M.m.ex
    refine ⟨_, (pss_cons (ps_expr (pe_call G_check_dish (hr.mono (by omega)) (by rfl) T.g_check_dish T.f_check_dish.kp T.b_check_dish .nil pass0 (pa_cons (pv 1) (pa_cons (pe_fld (pv 0) rfl) pa_nil))))
 (pss_one (ps_ret (pe_make T.mkM G_Meal___init__ (hr.mono (by omega)) (by rfl) T.g_Meal T.b_Meal___init__ .nil pass0 (pa_cons (Own.pe_merge1 (pe_fld (pv 0) rfl) (pv 1) (pe_tup (pa_cons (pv 2) (pa_cons (pv 3) pa_nil)))) (pa_cons (pe_fld (pv 0) rfl) (pa_cons (pe_fld (pv 0) rfl) pa_nil))))))), ?_⟩
    have em : mergeK [] kvs = kvs := by rw [merge_all kvs [] (by rw [List.nil_append, hP.keys]; exact inr_nd M.nd), List.nil_append]
    have kl : kvs.length ≤ 30 := by rw [hP.len]; exact M.yl
    obtain ⟨a0, ev, _⟩ := hP.val M.nd hn
    refine ⟨_, rfl, _, rfl, p, A.a_Meal, dx, _, .ref qb, rfl, hp, T.cl_M, T.nB, by rfl, n, qb, kvs, rfl, .inl hb, by rw [ev]; rfl, ?_⟩
    refine fun D nD => ⟨_, rfl, p, A.a_Meal, dx, _, .ref qb, rfl, Same.new nD _ _ hp, T.cl_M, T.nB, by rfl, qb, kvs, rfl, upd_same, .inl (Same.new nD _ _ hb), (ne_of_none hb nD).symm, by omega, ?_⟩
    rw [em]
    refine fun q nq => ⟨_, rfl, _, rfl, _, rfl, by show 2 ≤ sizeLine; decide, fun t nt => ?_⟩
    have nDq : D ≠ q := ne_of_none upd_same nq
    have f0 : ∀ b u, H b = some u → upd (upd (upd (upd H D (.dK [])) D (.dK kvs)) q (.dK [])) t (.tup [.int l, .int m]) b = some u := fun b u e => Same.new nt _ _ (Same.new nq _ _ (by rw [upd_upd]; exact Same.new nD _ _ e))
    have fD : upd (upd (upd (upd H D (.dK [])) D (.dK kvs)) q (.dK [])) t (.tup [.int l, .int m]) D = some (.dK kvs) := Same.new nt _ _ (Same.new nq _ _ upd_same)
    have fq : upd (upd (upd (upd H D (.dK [])) D (.dK kvs)) q (.dK [])) t (.tup [.int l, .int m]) q = some (.dK []) := Same.new nt _ _ upd_same
    have ft : upd (upd (upd (upd H D (.dK [])) D (.dK kvs)) q (.dK [])) t (.tup [.int l, .int m]) t = some (.tup [.int l, .int m]) := upd_same
    have ntq : t ≠ q := (ne_of_none (upd_same (H := upd (upd H D (.dK [])) D (.dK kvs)) (a := q) (o := .dK [])) nt).symm
    have ntD : t ≠ D := fun z => by rw [z, upd_ne nDq, upd_same] at nt; cases nt
    have fq0 : H q = none := by rw [upd_upd] at nq; exact (Same.new nD).free nq
    generalize upd (upd (upd (upd H D (.dK [])) D (.dK kvs)) q (.dK [])) t (.tup [.int l, .int m]) = H4 at f0 fD fq ft ⊢
    refine ⟨fq, fD, nDq, .inr n, rfl, ?_⟩
    have s5 : Same H (upd (upd H4 q (.dK [(.inr n, .ref t)])) D (.dK (putK kvs (.inr n) (.ref t)))) := fun b u e => by
      rw [upd_ne (ne_of_none e nD), upd_ne (ne_of_none e fq0)]; exact f0 _ _ e
    have hD5 : upd (upd H4 q (.dK [(.inr n, .ref t)])) D (.dK (putK kvs (.inr n) (.ref t))) D = some (.dK (putK kvs (.inr n) (.ref t))) := upd_same
    have ht5 : upd (upd H4 q (.dK [(.inr n, .ref t)])) D (.dK (putK kvs (.inr n) (.ref t))) t = some (.tup [.int l, .int m]) := by rw [upd_ne ntD, upd_ne ntq]; exact ft
    refine cast_heap (b := upd (upd H4 q (.dK [(.inr n, .ref t)])) D (.dK (putK kvs (.inr n) (.ref t)))) rfl ?_
    generalize upd (upd H4 q (.dK [(.inr n, .ref t)])) D (.dK (putK kvs (.inr n) (.ref t))) = H5 at s5 hD5 ht5 ⊢
    have P5 : Pr2 K H5 ys (fun x => .int (if x = n then l else lo x)) (fun x => .int (if x = n then m else hi x)) (putK kvs (.inr n) (.ref t)) := ((hP.up s5).put2 hn (SqT.of ht5)).congr fun x _ => ⟨ifInt _ _ _, ifInt _ _ _⟩
    have hB5 : ∀ x ∈ ys, (Nm x ∧ PyData.strOk x = true) ∧ 1 ≤ (if x = n then l else lo x) ∧ (if x = n then l else lo x) ≤ (if x = n then m else hi x) := fun x mx => by
      obtain ⟨b1, b2, b3⟩ := M.nm x mx
      refine ⟨b1, ?_, ?_⟩ <;> split <;> first | exact l1 | exact l2 | exact b2 | exact b3
    refine ⟨_, rfl, p, A.a_Meal, dx, _, .ref qw, rfl, s5 _ _ hp, T.cl_M, T.nW, by rfl, ?_⟩
    refine ⟨_, rfl, p, A.a_Meal, dx, _, .ref qp, rfl, s5 _ _ hp, T.cl_M, T.nP, by rfl, mk_meal hD5 P5.x M.nd hB5 (by have := M.yl; omega) (.inr (stUp hw s5)) (dpAllSame s5 hA) (stripAll_tp _ (tpAll_w M.w)) (by have := M.dl; omega) M.w (.inr (stUp hq s5)) (dpAllSame s5 hZ) (stripAll_tp _ (tpAll_s M.s)) (by have := M.el; omega) M.s (fun p2 H6 ys2 np2 s6 MN yp2 ysr2 => ?_)⟩
    rw [asc_eq yp2 ysr2 (sle_sorted M.srt)] at MN
    exact k p2 H6 (s5.trans s6) ⟨MN _ KeepM.refl, M.nd, hB5, M.yl, M.srt, M.w, M.dl, M.s, M.el⟩
theorem exc_fin2 {H : Hp} {C a : Addr} {n : Nat} {f : Str} {x y : V} {Hc : Hp} {dd : Addr} (na : H a = none) (s1 : Same (upd H a (exo a C none)) Hc) (h1 : Hc dd = none) (h2 : dd ≠ a) (hs : ∀ H', (∀ b u, Hc b = some u → b ≠ a → H' b = some u) → SD K n H' x y) :
    ∀ H2 : Hp, H2 = upd (upd Hc dd (exd dd [(f, y)])) a (exo a C (some dd)) →
    H2 a = some (exo a C (some dd)) ∧ H2 dd = some (exd dd [(f, y)]) ∧ H dd = none ∧ Same H (upd (del H2 a) dd (.xd [(f, y)])) ∧ upd (del H2 a) dd (.xd [(f, y)]) dd = some (.xd [(f, y)]) ∧ SD K n (upd (del H2 a) dd (.xd [(f, y)])) x y := by
  rintro H2 rfl
  have sH : Same H Hc := (Same.new na).trans s1
  have keep : ∀ b u, Hc b = some u → b ≠ a → upd (del (upd (upd Hc dd (exd dd [(f, y)])) a (exo a C (some dd))) a) dd (.xd [(f, y)]) b = some u := fun b u e ne => by
    have nd2 : b ≠ dd := fun z => by rw [z, h1] at e; cases e
    rw [upd_ne nd2, del_ne ne, upd_ne ne, upd_ne nd2]
    exact e
  exact ⟨upd_same, by rw [upd_ne h2, upd_same], sH.free h1, (fun b u e => keep b u (sH _ _ e) (fun z => by rw [z, na] at e; cases e)), upd_same, hs _ keep⟩
theorem sd_str {H : Hp} {n : Nat} {x : Str} {y : V} (h : SD K n H (.str x) y) : y = .str x := by
  rcases h with ⟨d, h1, h2, _⟩ | ⟨a, b, e, _⟩
  · cases h1
    cases h2
    rfl
  · cases e
theorem valV_not {kvs : List (Key × V)} {k : Key} (h : k ∉ kvs.map (·.1)) : valV kvs k = none := by
  induction kvs with
  | nil => rfl
  | cons p r ih =>
    rw [List.map_cons, List.mem_cons, not_or] at h
    rw [valV_neg (fun e => h.1 e.symm)]
    exact ih h.2
theorem Pr2.has {H : Hp} {ns : List Str} {f g : Str → V} {kvs : List (Key × V)} (h : Pr2 K H ns f g kvs) (nd : ns.Nodup) (n : Str) : (valV kvs (.inr n)).isSome = decide (n ∈ ns) := by
  by_cases m : n ∈ ns
  · obtain ⟨a, e, _⟩ := h.val nd m
    rw [e, decide_eq_true m]; rfl
  · rw [valV_not (by
      rw [h.keys]
      intro z
      obtain ⟨y, hy, e⟩ := List.mem_map.mp z
      exact m (by rw [← Sum.inr.inj e]; exact hy)), decide_eq_false m]; rfl
/-- meal + other -/
def mx (ys2 : List Str) (f g : Str → Int) (n : Str) : Int := if n ∈ ys2 then g n else f n
def spAdd (K : PySem.W.Frag) (n : Nat) (C CC : Addr) : Sp := fun vs H Q E => ∃ (p q : Addr) (ys zs : List Str) (lo hi lo2 hi2 : Str → Int) (ds es ds2 es2 : List PyData), vs = [.ref p, .ref q] ∧ MlIn K C H p ys lo hi ds es ∧ MlIn K C H q zs lo2 hi2 ds2 es2 ∧ ys.length + zs.length ≤ 30 ∧ ds.length + ds2.length ≤ 30 ∧ es.length + es2.length ≤ 30 ∧
  (((∀ x ∈ ys, x ∉ zs) ∧ ∀ p2 xs H', Same H H' → MlIn K C H' p2 xs (mx zs lo lo2) (mx zs hi hi2) (ds ++ ds2) (es ++ es2) → xs.Perm (ys ++ zs) → Q (.ref p2) H') ∨
   (∃ x, ys.find? (fun x => decide (x ∈ zs)) = some x ∧ 0 < n ∧ ∀ y dd H', Same H H' → H' dd = some (.xd [("name", y)]) → SD K n H' (.str x) y → E (.ref CC) (some dd) H'))
theorem ok_add (T : Txt K mg A) (n : Nat) : FnOk P w K mg base (L2.CX P w) (n + 7) A.a_Meal___add__ A.d_Meal___add__ P_Meal___add__ (spAdd K n A.a_Meal A.a_Clash) := by
  have G_Clash___init__ : FnOk P w K mg base CX0 (n + 1) A.a_Clash___init__ A.d_Clash___init__ P_Clash___init__ (spCLI K n A.a_Clash) := ok_cli T n
  have G_Meal___init__ : FnOk P w K mg base CX0 5 A.a_Meal___init__ A.d_Meal___init__ P_Meal___init__ (spInit K A.a_Meal) := ok_init T
  refine T.f_Meal___add__.okX sc_Meal___add__ (fun vs H Q E h => ?_) (fun cdv A' outer s H vs Q E hr h => ?_)
  · obtain ⟨p, q, ys, zs, lo, hi, lo2, hi2, ds, es, ds2, es2, rfl, _⟩ := h
    rfl
  · obtain ⟨p, q, ys, zs, lo, hi, lo2, hi2, ds, es, ds2, es2, rfl, M, N, yl, dl, el, h⟩ := h
    obtain ⟨dx, qb, qw, qp, kvs, ws, ps, hp, hb, hP, hw, hA, hq, hZ⟩ := M.m.ex
    obtain ⟨dx2, qb2, qw2, qp2, kvs2, ws2, ps2, hp2, hb2, hP2, hw2, hA2, hq2, hZ2⟩ := N.m.ex
    refine ⟨_, (pss_cons (ps_lock (ps_for (passes_of rfl) rfl (pi_keys (pe_fld (pv 0) rfl)) (pg_name (i := 2) sc_Meal___add__.nd rfl (Or.inl rfl))
 (pss_one (ps_if (pt_cmp (pc_din (hu_of hr) (pv 2) (pe_fld (pv 1) rfl)) (by rfl))
 (pss_one (ps_raise rfl (Own.takes_unlock (takes_of rfl rfl rfl rfl)) (pmk_oex T.xCl T.iCl T.tCl G_Clash___init__ (hr.mono (by omega)) T.b_Clash___init__ .nil pass0 (by rfl) T.g_Clash (pa_cons (pv 2) pa_nil))))
 pss_nil))))
 (PSs.nox (pss_cons (ps_set (i := 3) sc_Meal___add__.nd rfl (Or.inl rfl) (Own.pe_merge2 (pe_fld (pv 0) rfl) (pe_fld (pv 1) rfl)))
 (pss_one (ps_ret (pe_make T.mkM G_Meal___init__ (hr.mono (by omega)) (by rfl) T.g_Meal T.b_Meal___init__ .nil pass0 (pa_cons (pv 3) (pa_cons (pe_op op_catA (pe_fld (pv 0) rfl) (pe_fld (pv 1) rfl)) (pa_cons (pe_op op_catA (pe_fld (pv 0) rfl) (pe_fld (pv 1) rfl)) pa_nil))))))))), ?_⟩
    refine ⟨qb, _, hb, trivial, fun od => ?_⟩
    have npq : p ≠ qb := fun e => by rw [e, hb] at hp; cases hp
    have nqq : q ≠ qb := fun e => by rw [e, hb] at hp2; cases hp2
    refine ⟨_, rfl, p, A.a_Meal, dx, _, .ref qb, rfl, by rw [upd_ne npq]; exact hp, T.cl_M, T.nB, by rfl, qb, od, rfl, .inl ⟨kvs, upd_same, ?_⟩⟩
    have Hb : upd H qb (.frz od (.dK kvs)) qb = some (.frz od (.dK kvs)) := upd_same
    have rd2 : Rd (upd H qb (.frz od (.dK kvs))) qb2 (.dK kvs2) := by
      by_cases e : qb2 = qb
      · rw [e] at hb2 ⊢
        rw [hb] at hb2
        cases hb2
        exact .inr ⟨od, upd_same⟩
      · exact .inl (by rw [upd_ne e]; exact hb2)
    have hq2' : upd H qb (.frz od (.dK kvs)) q = some (.ins A.a_Meal dx2 [("bounds", .ref qb2), ("wished", .ref qw2), ("places", .ref qp2)]) := by rw [upd_ne nqq]; exact hp2
    refine for_it walk_keys (fun i σ' H' => ∃ u, σ' = [some (.ref p), some (.ref q), u, none] ∧ H' = upd H qb (.frz od (.dK kvs)) ∧ ∀ x ∈ ys.take i, x ∉ zs) ⟨_, rfl, rfl, fun x m => by cases m⟩ (fun i σ' H' _ ⟨_, _, e, _⟩ => by rw [e]; exact upd_same) ?_ (fun σ' H' z => ?_)
    · rintro i x σ' H' H'' hi ⟨u, rfl, rfl, hno⟩ ⟨rfl, key, v, hkv, rfl⟩
      obtain ⟨hi1, b2, rfl, rfl, _⟩ := hP.get hkv
      refine ⟨_, rfl, _, rfl, q, A.a_Meal, dx2, _, .ref qb2, rfl, hq2', T.cl_M, T.nB, by rfl, qb2, _, rfl, .inl ⟨kvs2, .inr ys[i], rd2, rfl, rfl⟩, _, rfl, ?_⟩
      rw [hP2.has N.nd]
      refine ite2 (fun c => ?_) (fun c => ?_)
      · have c : ys[i] ∈ zs := of_decide_eq_true c
        rcases h with ⟨h, _⟩ | ⟨x, hx, hn, k⟩
        · exact absurd c (h _ (List.getElem_mem hi1))
        have ex : x = ys[i] := by
          have e : ys = ys.take i ++ ys[i] :: ys.drop (i + 1) := by rw [← List.drop_eq_getElem_cons hi1, List.take_append_drop]
          rw [e, List.find?_append, List.find?_eq_none.mpr (fun y my => by simp only [decide_eq_true_eq]; exact hno y my), Option.none_or, List.find?_cons, decide_eq_true c] at hx
          exact (Option.some.inj hx).symm
        subst ex
        refine ⟨_, rfl, by show 1 ≤ 1000; decide, fun a na => ⟨a, _, upd H qb (.frz od (.dK kvs)), rfl, upd_same, na, ⟨Same.new na, .inl ⟨.str ys[i], .str _, by simp only [PyData.depth]; exact hn, rfl⟩⟩, fun y Hc dd s1 h1 h2 h3 => ?_⟩⟩
        obtain ⟨f1, f2, f3, f4, f5, f6⟩ := exc_fin2 (f := "name") na s1 h1 h2 h3 _ rfl
        refine ⟨rfl, dd, _, f1, f2, f3, qb, od, .dK kvs, f4 _ _ upd_same, fun o' u' z => ?_, k y dd _ (unfrz hb f4) ?_ (by rw [sd_str f6]; exact .inl ⟨.str ys[i], .str _, .str _, by simp only [PyData.depth]; exact hn, rfl⟩)⟩
        · have z : H qb = some (.frz o' u') := z
          rw [hb] at z; cases z
        · rw [upd_ne (fun z => by rw [z, upd_same] at f3; cases f3)]; exact f5
      · have c : ys[i] ∉ zs := of_decide_eq_false (eq_false_of_ne_true c)
        refine ⟨_, rfl, rfl, fun x m => ?_⟩
        rw [List.take_succ, List.getElem?_eq_getElem hi1] at m
        rcases List.mem_append.mp m with m | m
        · exact hno x m
        · rw [List.mem_singleton.mp m]; exact c
    · obtain ⟨u, rfl, rfl, hno⟩ := z
      rw [hP.len, List.take_length] at hno
      refine ⟨upd_same, ?_⟩
      rw [upd_upd, show upd H qb (.dK kvs) = H from by
        funext b
        by_cases e : b = qb
        · rw [e, upd_same, hb]
        · rw [upd_ne e]]
      rcases h with ⟨_, k⟩ | ⟨x, hx, _, _⟩
      · have nd1 : ((ys ++ zs).map (Sum.inr (α := Int))).Nodup := inr_nd (List.nodup_append.mpr ⟨M.nd, N.nd, fun x hx y hy e => hno x hx (by rw [e]; exact hy)⟩)
        have em : mergeK [] kvs = kvs := by rw [merge_all kvs [] (by rw [List.nil_append, hP.keys]; exact inr_nd M.nd), List.nil_append]
        have em2 : mergeK kvs kvs2 = kvs ++ kvs2 := merge_all kvs2 kvs (by rw [List.map_append, hP.keys, hP2.keys, ← List.map_append]; exact nd1)
        have kl : kvs.length ≤ 30 := by rw [hP.len]; exact M.yl
        have kl2 : kvs2.length ≤ 30 := by rw [hP2.len]; exact N.yl
        refine fun D nD => ⟨_, rfl, p, A.a_Meal, dx, _, .ref qb, rfl, Same.new nD _ _ hp, T.cl_M, T.nB, by rfl, qb, kvs, rfl, upd_same, .inl (Same.new nD _ _ hb), (ne_of_none hb nD).symm, by omega, ?_⟩
        rw [em, upd_upd]
        refine ⟨_, rfl, q, A.a_Meal, dx2, _, .ref qb2, rfl, Same.new nD _ _ hp2, T.cl_M, T.nB, by rfl, qb2, kvs2, rfl, upd_same, .inl (Same.new nD _ _ hb2), (ne_of_none hb2 nD).symm, by omega, ?_⟩
        rw [em2, upd_upd]
        have s1 := Same.new nD (o := .dK (kvs ++ kvs2))
        have hD1 : upd H D (.dK (kvs ++ kvs2)) D = some (.dK (kvs ++ kvs2)) := upd_same
        generalize upd H D (.dK (kvs ++ kvs2)) = H1 at s1 hD1 ⊢
        have mf : ∀ x ∈ ys, x ∉ zs := hno
        have P1 : Pr2 K H1 (ys ++ zs) (fun n => .int (mx zs lo lo2 n)) (fun n => .int (mx zs hi hi2 n)) (kvs ++ kvs2) := by
          refine Pr2.cat ((hP.up s1).congr fun n m => ?_) ((hP2.up s1).congr fun n m => ?_)
          · unfold mx; rw [if_neg (mf n m), if_neg (mf n m)]; exact ⟨rfl, rfl⟩
          · unfold mx; rw [if_pos m, if_pos m]; exact ⟨rfl, rfl⟩
        have hB1 : ∀ n ∈ ys ++ zs, (Nm n ∧ PyData.strOk n = true) ∧ 1 ≤ mx zs lo lo2 n ∧ mx zs lo lo2 n ≤ mx zs hi hi2 n := fun n m => by
          rcases List.mem_append.mp m with m | m
          · unfold mx; rw [if_neg (mf n m), if_neg (mf n m)]; exact M.nm n m
          · unfold mx; rw [if_pos m, if_pos m]; exact N.nm n m
        have yN : (ys ++ zs).Nodup := List.nodup_append.mpr ⟨M.nd, N.nd, fun x hx y hy e => hno x hx (by rw [e]; exact hy)⟩
        have wl := dpLen hA
        have wl2 := dpLen hA2
        have pl := dpLen hZ
        have pl2 := dpLen hZ2
        refine ⟨_, rfl, ?_⟩
        refine ⟨_, rfl, p, A.a_Meal, dx, _, .ref qw, rfl, s1 _ _ hp, T.cl_M, T.nW, by rfl, _, rfl, q, A.a_Meal, dx2, _, .ref qw2, rfl, s1 _ _ hp2, T.cl_M, T.nW, by rfl, rcatA_of (stUp hw s1) (stUp hw2 s1) (small (by omega)) fun a3 H3 s3 q3 => ?_⟩
        have S3 := s1.trans s3
        refine ⟨_, rfl, p, A.a_Meal, dx, _, .ref qp, rfl, S3 _ _ hp, T.cl_M, T.nP, by rfl, _, rfl, q, A.a_Meal, dx2, _, .ref qp2, rfl, S3 _ _ hp2, T.cl_M, T.nP, by rfl, rcatA_of (stUp hq S3) (stUp hq2 S3) (small (by omega)) fun a4 H4 s4 q4 => ?_⟩
        have S4 := S3.trans s4
        have hW4 : ∀ d ∈ ds ++ ds2, WshN (ys ++ zs) d := fun d m => (List.mem_append.mp m).elim (fun m => (M.w d m).mono fun n q => List.mem_append_left _ q) fun m => (N.w d m).mono fun n q => List.mem_append_right _ q
        have hS4 : ∀ d ∈ es ++ es2, StnN (ys ++ zs) d := fun d m => (List.mem_append.mp m).elim (fun m => (M.s d m).mono fun n q => List.mem_append_left _ q) fun m => (N.s d m).mono fun n q => List.mem_append_right _ q
        refine mk_meal ((s3.trans s4) _ _ hD1) (P1.up (s3.trans s4)).x yN hB1 (by rw [List.length_append]; omega) (.inr (stUp q3 s4)) (dpAll_cat (dpAllSame S4 hA) (dpAllSame S4 hA2)) (stripAll_tp _ (tpAll_w hW4)) (by rw [List.length_append]; omega) hW4 (.inr q4) (dpAll_cat (dpAllSame S4 hZ) (dpAllSame S4 hZ2)) (stripAll_tp _ (tpAll_s hS4)) (by rw [List.length_append]; omega) hS4 (fun p2 H6 xs np2 s6 MN xp xsr => ?_)
        have xm : ∀ n, n ∈ xs ↔ n ∈ ys ++ zs := fun n => xp.mem_iff
        exact k p2 xs H6 (S4.trans s6) ⟨MN _ KeepM.refl, xp.nodup_iff.mpr yN, fun n m => hB1 n ((xm n).mp m), by rw [xp.length_eq, List.length_append]; exact yl, xsr, fun d m => (hW4 d m).mono fun n q => (xm n).mpr q, by rw [List.length_append]; exact dl, fun d m => (hS4 d m).mono fun n q => (xm n).mpr q, by rw [List.length_append]; exact el⟩ xp
      · have m := List.find?_some hx
        exact absurd (of_decide_eq_true m) (hno x (List.mem_of_find?_eq_some hx))
end
end K5
set_option Elab.async false
set_option linter.all false
set_option maxRecDepth 100000
set_option maxHeartbeats 4000000
namespace K5
open PySem L2
local macro_rules | `(tactic| walk_at "rd1") => `(tactic| first
  | refine ⟨_, _, rfl, rfl, ?_⟩
  | refine ⟨_, _, _, _, rfl, rfl, SqL.of (by assumption), rfl, ?_⟩
  | refine ⟨_, _, _, _, rfl, rfl, (by assumption), rfl, ?_⟩
  | refine .inl ⟨_, rfl, ?_⟩
  | refine ⟨_, rfl, ?_⟩
  | refine ⟨(by unfold CMul; omega), ?_⟩
  | refine ⟨(by unfold CPow; omega), ?_⟩
  | refine ⟨(by (try dsimp only); omega), ?_⟩
  | refine ⟨(by unfold CDiv; omega), ?_⟩
  | fail "rd1")
local macro_rules | `(tactic| walk_at "rd") => `(tactic| repeat' (walk_at "rd1"))
section
variable {P : Program} {w : World} {K : PySem.W.Frag} {mg : Str → Option Value} {base : Heap} {A : Ad}

open Own
theorem fnOr {CX : CXT} {k : Nat} {f : Addr} {fd : FuncData} {ps : List Str} {sp1 sp2 : Sp} (F1 : FnOk P w K mg base CX k f fd ps sp1) (F2 : FnOk P w K mg base CX k f fd ps sp2) : FnOk P w K mg base CX k f fd ps (fun vs H Q E => sp1 vs H Q E ∨ sp2 vs H Q E) :=
  ⟨fun vs H Q E h => h.elim (F1.len vs H Q E) (F2.len vs H Q E), fun A outer s H args us vs Q E hr e b v h => h.elim (F1.run A outer s H args us vs Q E hr e b v) (F2.run A outer s H args us vs Q E hr e b v)⟩
theorem sd_symm {n : Nat} {H : Hp} {x y : V} (h : SD K n H x y) : SD K n H y x :=
  h.elim (fun ⟨d, a, b, c⟩ => .inl ⟨d, b, a, c⟩) fun ⟨a, b, e1, e2, h1, h2⟩ => .inr ⟨b, a, e2, e1, h2, h1⟩
theorem sd_up {n : Nat} {H H' : Hp} {x y : V} (h : SD K n H x y) (s : Same H H') : SD K n H' x y :=
  h.elim (fun ⟨d, a, b, c⟩ => .inl ⟨d, dpSame s a, dpSame s b, c⟩) fun ⟨a, b, e1, e2, h1, h2⟩ => .inr ⟨a, b, e1, e2, s _ _ h1, s _ _ h2⟩
def spEmp : Sp := fun vs H Q _ => ∃ (a b : Addr), vs = [.ref a, .ref b] ∧ H a = some (.dK []) ∧ H b = some (.dK []) ∧ ∀ H', Same H H' → Q (.bl true) H'
theorem ok_emp (T : Txt K mg A) : FnOk P w K mg base CX0 1 A.a__law_same A.d__law_same P__law_same spEmp := by
  have G__law_same : FnOk P w K mg base CX0 0 A.a__law_same A.d__law_same P__law_same (fun _ _ _ _ => False) := no_fn fun _ _ _ _ h => h
  refine T.f__law_same.ok sc__law_same (fun vs H Q E h => ?_) (fun cdv A' outer s H vs Q E hr h => ?_)
  · obtain ⟨a, b, rfl, _⟩ := h
    rfl
  · obtain ⟨a, b, rfl, ha, hb, k⟩ := h
    refine ⟨_, (pss_cons (ps_if (pt_val (pe_callB call_isiT (by rfl) T.isinstance (by decide +kernel) (pa_cons (pv 1) (pa_cons (pe_tup (pa_cons (pe_bltn (v := .ty "list") (u := .type "list") (by rfl) T.list (by decide +kernel) rfl) (pa_cons (pe_bltn (v := .ty "tuple") (u := .type "tuple") (by rfl) T.tuple (by decide +kernel) rfl) pa_nil))) pa_nil))))
 (pss_cons (ps_if (PW.pt (pw_or (pt_cmpR op_ne (pe_callB call_isi (by rfl) T.isinstance (by decide +kernel) (pa_cons (pv 0) (pa_cons (pe_bltn (v := .ty "list") (u := .type "list") (by rfl) T.list (by decide +kernel) rfl) pa_nil))) (pe_callB call_isi (by rfl) T.isinstance (by decide +kernel) (pa_cons (pv 1) (pa_cons (pe_bltn (v := .ty "list") (u := .type "list") (by rfl) T.list (by decide +kernel) rfl) pa_nil))) (nomark _)) (pw_or1 (pt_cmpR op_ne (pe_callB call_isi (by rfl) T.isinstance (by decide +kernel) (pa_cons (pv 0) (pa_cons (pe_bltn (v := .ty "tuple") (u := .type "tuple") (by rfl) T.tuple (by decide +kernel) rfl) pa_nil))) (pe_callB call_isi (by rfl) T.isinstance (by decide +kernel) (pa_cons (pv 1) (pa_cons (pe_bltn (v := .ty "tuple") (u := .type "tuple") (by rfl) T.tuple (by decide +kernel) rfl) pa_nil))) (nomark _)))))
 (pss_one (ps_ret pe_bl))
 pss_nil)
 (pss_one (ps_ret (pe_and (pe_cmpR op_eq (pe_callB call_len_seq (by rfl) T.len PySem.boot_len (pa_cons (pv 0) pa_nil)) (pe_callB call_len_seq (by rfl) T.len PySem.boot_len (pa_cons (pv 1) pa_nil)) (nomark _)) (pe_one (pe_callB (cr_all rfl) (by rfl) T.all (by decide +kernel) (pa_cons (pe_lc (own := [("_law_x", 2), ("_law_y", 3)]) (g := gTup K 2 (gCons (gName 2) (gCons (gName 3) gNil))) (by rfl) sc__law_same.nd (RZ.pi_zipA (by rfl) T.zip (pa_cons (pv 0) (pa_cons (pv 1) pa_nil))) (blkOk_by (N := N__law_same) (sc := defScope s__law_same) (by decide +kernel)) (fun _ _ _ _ _ => (pg_tup rfl (pgs_cons (pg_name (i := 2) sc__law_same.nd rfl (Or.inl rfl)) (pgs_cons (pg_name (i := 3) sc__law_same.nd rfl (Or.inl rfl)) pgs_nil)))) (fun _ _ _ _ _ => pts_nil) (fun _ _ _ _ _ => (pe_call G__law_same (hr.mono (by omega)) (by rfl) T.g__law_same T.f__law_same.kp T.b__law_same .nil pass0 (pa_cons (pv 2) (pa_cons (pv 3) pa_nil))))) pa_nil)))))))
 pss_nil)
 (pss_cons (ps_if (pt_val (pe_callB call_isi (by rfl) T.isinstance (by decide +kernel) (pa_cons (pv 1) (pa_cons (pe_bltn (v := .ty "int") (u := .type "int") (by rfl) T.int (by decide +kernel) rfl) pa_nil))))
 (pss_one (ps_ret (pe_and (pe_callB call_isi (by rfl) T.isinstance (by decide +kernel) (pa_cons (pv 0) (pa_cons (pe_bltn (v := .ty "int") (u := .type "int") (by rfl) T.int (by decide +kernel) rfl) pa_nil))) (pe_and (pe_cmpR op_eq (pe_callB call_isi (by rfl) T.isinstance (by decide +kernel) (pa_cons (pv 0) (pa_cons (pe_bltn (v := .ty "bool") (u := .type "bool") (by rfl) T.bool (by decide +kernel) rfl) pa_nil))) (pe_callB call_isi (by rfl) T.isinstance (by decide +kernel) (pa_cons (pv 1) (pa_cons (pe_bltn (v := .ty "bool") (u := .type "bool") (by rfl) T.bool (by decide +kernel) rfl) pa_nil))) (nomark _)) (pe_one (pe_cmpR (Own.op_eqDF hr.units) (pv 0) (pv 1) (nomark _)))))))
 pss_nil)
 (pss_one (ps_ret (pe_and (pe_cmpR op_isBl (pe_callB call_isiT (by rfl) T.isinstance (by decide +kernel) (pa_cons (pv 0) (pa_cons (pe_tup (pa_cons (pe_bltn (v := .ty "int") (u := .type "int") (by rfl) T.int (by decide +kernel) rfl) (pa_cons (pe_bltn (v := .ty "list") (u := .type "list") (by rfl) T.list (by decide +kernel) rfl) (pa_cons (pe_bltn (v := .ty "tuple") (u := .type "tuple") (by rfl) T.tuple (by decide +kernel) rfl) pa_nil)))) pa_nil))) pe_bl (nomark _)) (pe_one (pe_cmpR (Own.op_eqDF hr.units) (pv 0) (pv 1) (nomark _)))))))), ?_⟩
    refine ⟨_, rfl, by show 2 ≤ sizeLine; decide, fun p hp => ?_⟩
    have s1 : Same H (upd H p (.tup [.ty "list", .ty "tuple"])) := Same.new hp
    refine ⟨_, p, _, _, _, false, rfl, upd_same, .cons (.ty _) (.cons (.ty _) .nil), .base (.dK (s1 _ _ hb)), kit2 (a := "dict") (b := "list") (c := "tuple") (r := false) (s := false) (by decide +kernel) (by decide +kernel), _, rfl, iteF ?_⟩
    refine ⟨_, rfl, _, _, .type "dict", _, false, rfl, .ty _, .base (.dK (s1 _ _ hb)), kit_ty (by decide +kernel), _, rfl, iteF ?_⟩
    refine ⟨_, rfl, by show 3 ≤ sizeLine; decide, fun q hq => ?_⟩
    have s2 := s1.trans (Same.new (o := .tup [.ty "int", .ty "list", .ty "tuple"]) hq)
    refine ⟨_, q, _, _, _, false, rfl, upd_same, .cons (.ty _) (.cons (.ty _) (.cons (.ty _) .nil)), .base (.dK (s2 _ _ ha)), kit3 (a := "dict") (b := "int") (c := "list") (d := "tuple") (r := false) (s := false) (t := false) (by decide +kernel) (by decide +kernel) (by decide +kernel), _, _, rfl, rfl, _, rfl, iteT ⟨_, rfl, _, rfl, a, b, [], [], rfl, rfl, s2 _ _ ha, s2 _ _ hb, (by intro _ m; cases m), (by intro _ _ m; cases m), k _ s2⟩⟩

theorem MlIn.lay {C : Addr} {H : Hp} {p : Addr} {ys : List Str} {lo hi : Str → Int} {ds es : List PyData} (M : MlIn K C H p ys lo hi ds es) :
    (SeqAt.shaped (.tuple ds) = true ∧ SeqAt.shaped (.list ds) = true ∧ PyData.eqvAll ds ds = true) ∧ (SeqAt.shaped (.tuple es) = true ∧ SeqAt.shaped (.list es) = true ∧ PyData.eqvAll es es = true) :=
  ⟨shaped_all fun d m => wshN_lay (fun n q => (M.nm n q).1.2) (M.w d m), shaped_all fun d m => stnN_lay (fun n q => (M.nm n q).1.2) (M.s d m)⟩
/-- two meals of the same things -/
def SmM (K : PySem.W.Frag) (C : Addr) (H : Hp) (x y : V) : Prop := ∃ (a b : Addr) (ys : List Str) (lo hi : Str → Int) (ds es : List PyData), x = .ref a ∧ y = .ref b ∧ MlIn K C H a ys lo hi ds es ∧ MlIn K C H b ys lo hi ds es
theorem SmM.up {C : Addr} {H H' : Hp} {x y : V} (h : SmM K C H x y) (s : Same H H') : SmM K C H' x y := by
  obtain ⟨a, b, ys, lo, hi, ds, es, e1, e2, h1, h2⟩ := h
  exact ⟨a, b, ys, lo, hi, ds, es, e1, e2, h1.up s, h2.up s⟩
def spMl (K : PySem.W.Frag) (C : Addr) : Sp := fun vs H Q _ => ∃ (x y : V), vs = [x, y] ∧ SmM K C H x y ∧ ∀ H', Same H H' → Q (.bl true) H'
theorem ok_ml (T : Txt K mg A) : FnOk P w K mg base CX0 2 A.a__law_same A.d__law_same P__law_same (spMl K A.a_Meal) := by
  have G__law_same : FnOk P w K mg base CX0 0 A.a__law_same A.d__law_same P__law_same (fun _ _ _ _ => False) := no_fn fun _ _ _ _ h => h
  have G_Meal___eq__ : FnOk P w K mg base CX0 1 A.a_Meal___eq__ A.d_Meal___eq__ P_Meal___eq__ (spMEq K A.a_Meal) := ok_meq T
  refine T.f__law_same.ok sc__law_same (fun vs H Q E h => ?_) (fun cdv A' outer s H vs Q E hr h => ?_)
  · obtain ⟨a, b, rfl, _⟩ := h
    rfl
  · obtain ⟨_, _, rfl, ⟨a, b, ys, lo, hi, ds, es, rfl, rfl, M1, M2⟩, k⟩ := h
    refine ⟨_, (pss_cons (ps_if (pt_val (pe_callB call_isiT (by rfl) T.isinstance (by decide +kernel) (pa_cons (pv 1) (pa_cons (pe_tup (pa_cons (pe_bltn (v := .ty "list") (u := .type "list") (by rfl) T.list (by decide +kernel) rfl) (pa_cons (pe_bltn (v := .ty "tuple") (u := .type "tuple") (by rfl) T.tuple (by decide +kernel) rfl) pa_nil))) pa_nil))))
 (pss_cons (ps_if (PW.pt (pw_or (pt_cmpR op_ne (pe_callB call_isi (by rfl) T.isinstance (by decide +kernel) (pa_cons (pv 0) (pa_cons (pe_bltn (v := .ty "list") (u := .type "list") (by rfl) T.list (by decide +kernel) rfl) pa_nil))) (pe_callB call_isi (by rfl) T.isinstance (by decide +kernel) (pa_cons (pv 1) (pa_cons (pe_bltn (v := .ty "list") (u := .type "list") (by rfl) T.list (by decide +kernel) rfl) pa_nil))) (nomark _)) (pw_or1 (pt_cmpR op_ne (pe_callB call_isi (by rfl) T.isinstance (by decide +kernel) (pa_cons (pv 0) (pa_cons (pe_bltn (v := .ty "tuple") (u := .type "tuple") (by rfl) T.tuple (by decide +kernel) rfl) pa_nil))) (pe_callB call_isi (by rfl) T.isinstance (by decide +kernel) (pa_cons (pv 1) (pa_cons (pe_bltn (v := .ty "tuple") (u := .type "tuple") (by rfl) T.tuple (by decide +kernel) rfl) pa_nil))) (nomark _)))))
 (pss_one (ps_ret pe_bl))
 pss_nil)
 (pss_one (ps_ret (pe_and (pe_cmpR op_eq (pe_callB call_len_seq (by rfl) T.len PySem.boot_len (pa_cons (pv 0) pa_nil)) (pe_callB call_len_seq (by rfl) T.len PySem.boot_len (pa_cons (pv 1) pa_nil)) (nomark _)) (pe_one (pe_callB (cr_all rfl) (by rfl) T.all (by decide +kernel) (pa_cons (pe_lc (own := [("_law_x", 2), ("_law_y", 3)]) (g := gTup K 2 (gCons (gName 2) (gCons (gName 3) gNil))) (by rfl) sc__law_same.nd (RZ.pi_zipA (by rfl) T.zip (pa_cons (pv 0) (pa_cons (pv 1) pa_nil))) (blkOk_by (N := N__law_same) (sc := defScope s__law_same) (by decide +kernel)) (fun _ _ _ _ _ => (pg_tup rfl (pgs_cons (pg_name (i := 2) sc__law_same.nd rfl (Or.inl rfl)) (pgs_cons (pg_name (i := 3) sc__law_same.nd rfl (Or.inl rfl)) pgs_nil)))) (fun _ _ _ _ _ => pts_nil) (fun _ _ _ _ _ => (pe_call G__law_same (hr.mono (by omega)) (by rfl) T.g__law_same T.f__law_same.kp T.b__law_same .nil pass0 (pa_cons (pv 2) (pa_cons (pv 3) pa_nil))))) pa_nil)))))))
 pss_nil)
 (pss_cons (ps_if (pt_val (pe_callB call_isi (by rfl) T.isinstance (by decide +kernel) (pa_cons (pv 1) (pa_cons (pe_bltn (v := .ty "int") (u := .type "int") (by rfl) T.int (by decide +kernel) rfl) pa_nil))))
 (pss_one (ps_ret (pe_and (pe_callB call_isi (by rfl) T.isinstance (by decide +kernel) (pa_cons (pv 0) (pa_cons (pe_bltn (v := .ty "int") (u := .type "int") (by rfl) T.int (by decide +kernel) rfl) pa_nil))) (pe_and (pe_cmpR op_eq (pe_callB call_isi (by rfl) T.isinstance (by decide +kernel) (pa_cons (pv 0) (pa_cons (pe_bltn (v := .ty "bool") (u := .type "bool") (by rfl) T.bool (by decide +kernel) rfl) pa_nil))) (pe_callB call_isi (by rfl) T.isinstance (by decide +kernel) (pa_cons (pv 1) (pa_cons (pe_bltn (v := .ty "bool") (u := .type "bool") (by rfl) T.bool (by decide +kernel) rfl) pa_nil))) (nomark _)) (pe_one (pe_cmpR (Own.op_eqOwn G_Meal___eq__ T.m_eq.at_ T.m_eq.fn T.b_Meal___eq__ pass0 (hr.mono (by omega))) (pv 0) (pv 1) (nomark _)))))))
 pss_nil)
 (pss_one (ps_ret (pe_and (pe_cmpR op_isBl (pe_callB call_isiT (by rfl) T.isinstance (by decide +kernel) (pa_cons (pv 0) (pa_cons (pe_tup (pa_cons (pe_bltn (v := .ty "int") (u := .type "int") (by rfl) T.int (by decide +kernel) rfl) (pa_cons (pe_bltn (v := .ty "list") (u := .type "list") (by rfl) T.list (by decide +kernel) rfl) (pa_cons (pe_bltn (v := .ty "tuple") (u := .type "tuple") (by rfl) T.tuple (by decide +kernel) rfl) pa_nil)))) pa_nil))) pe_bl (nomark _)) (pe_one (pe_cmpR (Own.op_eqOwn G_Meal___eq__ T.m_eq.at_ T.m_eq.fn T.b_Meal___eq__ pass0 (hr.mono (by omega))) (pv 0) (pv 1) (nomark _)))))))), ?_⟩
    obtain ⟨dx1, _, _, _, _, _, _, hp1, _⟩ := id M1.m.ex
    obtain ⟨dx2, _, _, _, _, _, _, hp2, _⟩ := id M2.m.ex
    obtain ⟨⟨sw1, _, sw3⟩, ⟨ss1, _, ss3⟩⟩ := M1.lay
    refine ⟨_, rfl, by show 2 ≤ sizeLine; decide, fun p hp => ?_⟩
    have s1 : Same H (upd H p (.tup [.ty "list", .ty "tuple"])) := Same.new hp
    refine ⟨_, p, _, _, _, false, rfl, upd_same, .cons (.ty _) (.cons (.ty _) .nil), .base (.ins (s1 _ _ hp2) T.cl_M T.aC T.aG T.aT T.mO), kitAny_cons T.qML (fun _ => kitAny_cons T.qMT (fun _ => kitAny_nil) (fun z => nomatch z)) (fun z => nomatch z), _, rfl, iteF ?_⟩
    refine ⟨_, rfl, _, _, .ref A.a_Meal, _, false, rfl, .ty _, .base (.ins (s1 _ _ hp2) T.cl_M T.aC T.aG T.aT T.mO), T.qMI, _, rfl, iteF ?_⟩
    refine ⟨_, rfl, by show 3 ≤ sizeLine; decide, fun q hq => ?_⟩
    have s2 := s1.trans (Same.new (o := .tup [.ty "int", .ty "list", .ty "tuple"]) hq)
    refine ⟨_, q, _, _, _, false, rfl, upd_same, .cons (.ty _) (.cons (.ty _) (.cons (.ty _) .nil)), .base (.ins (s2 _ _ hp1) T.cl_M T.aC T.aG T.aT T.mO), kitAny_cons T.qMI (fun _ => kitAny_cons T.qML (fun _ => kitAny_cons T.qMT (fun _ => kitAny_nil) (fun z => nomatch z)) (fun z => nomatch z)) (fun z => nomatch z), _, _, rfl, rfl, _, rfl, iteT ?_⟩
    refine ⟨_, rfl, _, rfl, a, dx1, _, rfl, s2 _ _ hp1, .ins (s2 _ _ hp2) T.nfM, a, ys, lo, hi, ds, es, _, rfl, M1.m.up s2, sw1, ss1, .inl ⟨b, ys, lo, hi, ds, es, rfl, M2.m.up s2, sw1, ss1, ?_⟩⟩
    rw [eqMl_refl M1.nd sw3 ss3]
    exact ⟨_, rfl, k _ s2⟩
/-- what is the same: things, or meals -/
def LF (K : PySem.W.Frag) (C : Addr) (n : Nat) (H : Hp) (x y : V) : Prop := SD K n H x y ∨ SmM K C H x y
theorem LF.up {C : Addr} {n : Nat} {H H' : Hp} {x y : V} (h : LF K C n H x y) (s : Same H H') : LF K C n H' x y := h.imp (fun q => sd_up q s) fun q => q.up s
def spSX (K : PySem.W.Frag) (C : Addr) (n : Nat) : Sp := fun vs H Q _ => ∃ (x y : V), vs = [x, y] ∧ LF K C n H x y ∧ ∀ H', Same H H' → Q (.bl true) H'
theorem ok_sx (T : Txt K mg A) (n : Nat) : FnOk P w K mg base CX0 (n + 2) A.a__law_same A.d__law_same P__law_same (spSX K A.a_Meal (n + 1)) :=
  (fnOr ((ok_same T (n + 1)).mono (by omega)) (fnOr ((ok_emp T).mono (by omega)) ((ok_ml T).mono (by omega)))).imp fun vs H Q E ⟨x, y, e, h, k⟩ => h.elim (fun h => h.elim (fun ⟨d, a, b, c, d2⟩ => .inl ⟨x, y, d, e, a, b, c, d2, k⟩) fun ⟨a, b, e1, e2, h1, h2⟩ => .inr (.inl ⟨a, b, by rw [e, e1, e2], h1, h2, k⟩)) fun h => .inr (.inr ⟨x, y, e, h, k⟩)
/-- two pairs, the second things of which are the same -/
def spPair (K : PySem.W.Frag) (C : Addr) (n : Nat) : Sp := fun vs H Q _ => ∃ (t1 t2 : Addr) (x y : V) (z : Str), vs = [.ref t1, .ref t2] ∧ H t1 = some (.tup [.str z, x]) ∧ H t2 = some (.tup [.str z, y]) ∧ LF K C n H x y ∧ ∀ H', Same H H' → Q (.bl true) H'
theorem ok_pair (T : Txt K mg A) (n : Nat) : FnOk P w K mg base CX0 (n + 3) A.a__law_same A.d__law_same P__law_same (spPair K A.a_Meal (n + 1)) := by
  have G__law_same : FnOk P w K mg base CX0 (n + 2) A.a__law_same A.d__law_same P__law_same (spSX K A.a_Meal (n + 1)) := ok_sx T n
  refine T.f__law_same.ok sc__law_same (fun vs H Q E h => ?_) (fun cdv A' outer s H vs Q E hr h => ?_)
  · obtain ⟨t1, t2, x, y, z, rfl, _⟩ := h
    rfl
  · obtain ⟨t1, t2, x, y, z, rfl, h1, h2, hs, k⟩ := h
    refine ⟨_, (pss_cons (ps_if (pt_val (pe_callB call_isiT (by rfl) T.isinstance (by decide +kernel) (pa_cons (pv 1) (pa_cons (pe_tup (pa_cons (pe_bltn (v := .ty "list") (u := .type "list") (by rfl) T.list (by decide +kernel) rfl) (pa_cons (pe_bltn (v := .ty "tuple") (u := .type "tuple") (by rfl) T.tuple (by decide +kernel) rfl) pa_nil))) pa_nil))))
 (pss_cons (ps_if (PW.pt (pw_or (pt_cmpR op_ne (pe_callB call_isi (by rfl) T.isinstance (by decide +kernel) (pa_cons (pv 0) (pa_cons (pe_bltn (v := .ty "list") (u := .type "list") (by rfl) T.list (by decide +kernel) rfl) pa_nil))) (pe_callB call_isi (by rfl) T.isinstance (by decide +kernel) (pa_cons (pv 1) (pa_cons (pe_bltn (v := .ty "list") (u := .type "list") (by rfl) T.list (by decide +kernel) rfl) pa_nil))) (nomark _)) (pw_or1 (pt_cmpR op_ne (pe_callB call_isi (by rfl) T.isinstance (by decide +kernel) (pa_cons (pv 0) (pa_cons (pe_bltn (v := .ty "tuple") (u := .type "tuple") (by rfl) T.tuple (by decide +kernel) rfl) pa_nil))) (pe_callB call_isi (by rfl) T.isinstance (by decide +kernel) (pa_cons (pv 1) (pa_cons (pe_bltn (v := .ty "tuple") (u := .type "tuple") (by rfl) T.tuple (by decide +kernel) rfl) pa_nil))) (nomark _)))))
 (pss_one (ps_ret pe_bl))
 pss_nil)
 (pss_one (ps_ret (pe_and (pe_cmpR op_eq (pe_callB call_len_seq (by rfl) T.len PySem.boot_len (pa_cons (pv 0) pa_nil)) (pe_callB call_len_seq (by rfl) T.len PySem.boot_len (pa_cons (pv 1) pa_nil)) (nomark _)) (pe_one (pe_callB (cr_all rfl) (by rfl) T.all (by decide +kernel) (pa_cons (pe_lc (own := [("_law_x", 2), ("_law_y", 3)]) (g := gTup K 2 (gCons (gName 2) (gCons (gName 3) gNil))) (by rfl) sc__law_same.nd (RZ.pi_zipA (by rfl) T.zip (pa_cons (pv 0) (pa_cons (pv 1) pa_nil))) (blkOk_by (N := N__law_same) (sc := defScope s__law_same) (by decide +kernel)) (fun _ _ _ _ _ => (pg_tup rfl (pgs_cons (pg_name (i := 2) sc__law_same.nd rfl (Or.inl rfl)) (pgs_cons (pg_name (i := 3) sc__law_same.nd rfl (Or.inl rfl)) pgs_nil)))) (fun _ _ _ _ _ => pts_nil) (fun _ _ _ _ _ => (pe_call G__law_same (hr.mono (by omega)) (by rfl) T.g__law_same T.f__law_same.kp T.b__law_same .nil pass0 (pa_cons (pv 2) (pa_cons (pv 3) pa_nil))))) pa_nil)))))))
 pss_nil)
 (pss_cons (ps_if (pt_val (pe_callB call_isi (by rfl) T.isinstance (by decide +kernel) (pa_cons (pv 1) (pa_cons (pe_bltn (v := .ty "int") (u := .type "int") (by rfl) T.int (by decide +kernel) rfl) pa_nil))))
 (pss_one (ps_ret (pe_and (pe_callB call_isi (by rfl) T.isinstance (by decide +kernel) (pa_cons (pv 0) (pa_cons (pe_bltn (v := .ty "int") (u := .type "int") (by rfl) T.int (by decide +kernel) rfl) pa_nil))) (pe_and (pe_cmpR op_eq (pe_callB call_isi (by rfl) T.isinstance (by decide +kernel) (pa_cons (pv 0) (pa_cons (pe_bltn (v := .ty "bool") (u := .type "bool") (by rfl) T.bool (by decide +kernel) rfl) pa_nil))) (pe_callB call_isi (by rfl) T.isinstance (by decide +kernel) (pa_cons (pv 1) (pa_cons (pe_bltn (v := .ty "bool") (u := .type "bool") (by rfl) T.bool (by decide +kernel) rfl) pa_nil))) (nomark _)) (pe_one (pe_cmpR op_eq (pv 0) (pv 1) (nomark _)))))))
 pss_nil)
 (pss_one (ps_ret (pe_and (pe_cmpR op_isBl (pe_callB call_isiT (by rfl) T.isinstance (by decide +kernel) (pa_cons (pv 0) (pa_cons (pe_tup (pa_cons (pe_bltn (v := .ty "int") (u := .type "int") (by rfl) T.int (by decide +kernel) rfl) (pa_cons (pe_bltn (v := .ty "list") (u := .type "list") (by rfl) T.list (by decide +kernel) rfl) (pa_cons (pe_bltn (v := .ty "tuple") (u := .type "tuple") (by rfl) T.tuple (by decide +kernel) rfl) pa_nil)))) pa_nil))) pe_bl (nomark _)) (pe_one (pe_cmpR op_eq (pv 0) (pv 1) (nomark _)))))))), ?_⟩
    refine ⟨_, rfl, by show 2 ≤ sizeLine; decide, fun p hp => ?_⟩
    have s1 : Same H (upd H p (.tup [.ty "list", .ty "tuple"])) := Same.new hp
    have a1 := s1 _ _ h1
    have a2 := s1 _ _ h2
    have hs1 := hs.up s1
    have hpt : upd H p (.tup [.ty "list", .ty "tuple"]) p = some (.tup [.ty "list", .ty "tuple"]) := upd_same
    generalize upd H p (.tup [.ty "list", .ty "tuple"]) = H1 at s1 a1 a2 hs1 hpt ⊢
    have t1' := tyT (SqT.of (K := K) a1)
    have t2' := tyT (SqT.of (K := K) a2)
    refine ⟨_, p, _, _, _, true, rfl, hpt, .cons (.ty _) (.cons (.ty _) .nil), t2', kit2 (a := "tuple") (b := "list") (c := "tuple") (r := false) (s := true) (by decide +kernel) (by decide +kernel), _, rfl, iteT ?_⟩
    refine ⟨_, rfl, _, _, .type "tuple", _, false, rfl, .ty _, t1', kit_ty (by decide +kernel), _, rfl, _, _, .type "tuple", _, false, rfl, .ty _, t2', kit_ty (by decide +kernel), rfl, _, rfl, iteF ?_⟩
    refine ⟨_, rfl, _, _, .type "tuple", _, true, rfl, .ty _, t1', kit_ty (by decide +kernel), _, rfl, _, _, .type "tuple", _, true, rfl, .ty _, t2', kit_ty (by decide +kernel), rfl, _, rfl, iteF ?_⟩
    refine ⟨_, rfl, _, _, rfl, .inr (SqT.of a1), _, rfl, _, _, rfl, .inr (SqT.of a2), rfl, true, rfl, iteT ?_⟩
    refine ⟨_, rfl, _, rfl, _, _, _, _, rfl, .inr ⟨SqT.of a1, SqT.of a2, fun D hD => lc_it (walk_zipT (n := 2) rfl) (fun i H' => Same H1 H' ∧ H' D = some (.lst ((List.replicate i true).map V.bl))) ⟨Same.new hD, upd_same⟩ (fun i H' _ q => ⟨SqT.of (q.1 _ _ a1), SqT.of (q.1 _ _ a2)⟩) ?_ (fun H' q => ?_)⟩⟩
    · rintro i v H' H'' hi ⟨s2, hD'⟩ ⟨T, u, w', rfl, hT, rfl, hx', hy'⟩
      have s3 := s2.trans (Same.new (o := .tup [u, w']) hT)
      have sd : LF K A.a_Meal (n + 1) (upd H' T (.tup [u, w'])) u w' := by
        rcases i with _ | _ | i
        · cases hx'
          cases hy'
          exact .inl (.inl ⟨.str z, .str z, .str z, by simp [PyData.depth], rfl⟩)
        · cases hx'
          cases hy'
          exact hs1.up s3
        · omega
      refine ⟨T, [u, w'], rfl, SqT.of upd_same, rfl, _, _, rfl, _, _, rfl, rfl, rfl, ?_⟩
      refine ⟨_, rfl, _, rfl, u, w', rfl, sd, fun H3 s4 => ?_⟩
      have hD3 : H3 D = some (.lst ((List.replicate i true).map V.bl)) := s4 _ _ (Same.new hT _ _ hD')
      refine ⟨_, hD3, by rw [List.length_map, List.length_replicate]; exact Nat.lt_of_lt_of_le hi (by decide), ?_, ?_⟩
      · exact fun b o e => by rw [upd_ne (ne_of_none e hD)]; exact (s3.trans s4) _ _ e
      · rw [upd_same, List.replicate_succ', List.map_append]; rfl
    · refine ⟨D, _, rfl, SqL.of q.2, ?_⟩
      rw [all_true]
      exact k _ (s1.trans q.1)
theorem keys_str {kvs : List (Key × V)} {ys : List Str} (h : kvs.map (·.1) = ys.map Sum.inr) : (kvs.map fun kv => kV kv.1) = ys.map V.str := by
  have e : (kvs.map fun kv => kV kv.1) = (kvs.map (·.1)).map kV := by rw [List.map_map]; rfl
  rw [e, h, List.map_map]; rfl
/-! ### dicts of what dishes hang on, with waits -/
def spSameB (K : PySem.W.Frag) : Sp := fun vs H Q _ => ∃ (a b : Addr) (ys : List Str) (lo hi : Str → Int) (ka kb : List (Key × V)), vs = [.ref a, .ref b] ∧ H a = some (.dK ka) ∧ H b = some (.dK kb) ∧ Pr2 K H ys (fun n => .int (lo n)) (fun n => .int (hi n)) ka ∧ Pr2 K H ys (fun n => .int (lo n)) (fun n => .int (hi n)) kb ∧
  ys.Nodup ∧ ys.length < 64 ∧ (∀ s ∈ ys, PyData.strOk s = true) ∧ ∀ H', Same H H' → Q (.bl true) H'
theorem ok_sameb (T : Txt K mg A) : FnOk P w K mg base CX0 3 A.a__law_same_dict A.d__law_same_dict P__law_same_dict (spSameB K) := by
  have G__law_same : FnOk P w K mg base CX0 2 A.a__law_same A.d__law_same P__law_same (spSame K 2) := ok_same T 2
  refine T.f__law_same_dict.ok sc__law_same_dict (fun vs H Q E h => ?_) (fun cdv A' outer s H vs Q E hr h => ?_)
  · obtain ⟨a, b, ys, lo, hi, ka, kb, rfl, _⟩ := h
    rfl
  · obtain ⟨a, b, ys, lo, hi, ka, kb, rfl, ha, hb, hPa, hPb, nd, hl, hok, k⟩ := h
    refine ⟨_, (pss_cons (ps_if (PW.pt (pw_or (pt_not (pt_val (pe_callB call_isi (by rfl) T.isinstance (by decide +kernel) (pa_cons (pv 0) (pa_cons (pe_bltn (v := .ty "dict") (u := .type "dict") (by rfl) T.dict (by decide +kernel) rfl) pa_nil))))) (pw_or1 (pt_cmpR (op_neD hr.units) (pe_callTy (call_listD rfl) (by rfl) T.list (by decide +kernel) (pa_cons (pv 0) pa_nil)) (pe_callTy (call_listD rfl) (by rfl) T.list (by decide +kernel) (pa_cons (pv 1) pa_nil)) (nomark _)))))
 (pss_one (ps_ret pe_bl))
 pss_nil)
 (pss_one (ps_ret (pe_lock (pe_callB (cr_all rfl) (by rfl) T.all (by decide +kernel) (pa_cons (pe_lc (own := [("_law_key", 2)]) (g := gName 2) (by rfl) sc__law_same_dict.nd (pi_keys (pv 1)) (blkOk_by (N := N__law_same_dict) (sc := defScope s__law_same_dict) (by decide +kernel)) (fun _ _ _ _ _ => pg_name (i := 2) sc__law_same_dict.nd rfl (Or.inl rfl)) (fun _ _ _ _ _ => pts_nil) (fun _ _ _ _ _ => (pe_call G__law_same (hr.mono (by omega)) (by rfl) T.g__law_same T.f__law_same.kp T.b__law_same .nil pass0 (pa_cons (pe_dget (hu_of hr) (pv 0) (pv 2) (fun _ _ => rfl)) (pa_cons (pe_dget (hu_of hr) (pv 1) (pv 2) (fun _ _ => rfl)) pa_nil))))) pa_nil)))))), ?_⟩
    refine ⟨_, rfl, _, _, .type "dict", _, true, rfl, .ty _, .base (.dK ha), kit_ty (by decide +kernel), _, rfl, iteF ?_⟩
    refine ⟨_, rfl, a, _, rfl, .inl ha, fun l nl => ?_⟩
    have s1 : Same H (upd H l (.lst (ka.map fun kv => kV kv.1))) := Same.new nl
    refine ⟨_, rfl, b, _, rfl, .inl (s1 _ _ hb), fun m nm => ?_⟩
    have s2 : Same H (upd (upd H l (.lst (ka.map fun kv => kV kv.1))) m (.lst (kb.map fun kv => kV kv.1))) := s1.trans (Same.new nm)
    have h1 : upd (upd H l (.lst (ka.map fun kv => kV kv.1))) m (.lst (kb.map fun kv => kV kv.1)) l = some (.lst (ys.map V.str)) := by rw [← keys_str hPa.keys]; exact Same.new nm _ _ upd_same
    have h2 : upd (upd H l (.lst (ka.map fun kv => kV kv.1))) m (.lst (kb.map fun kv => kV kv.1)) m = some (.lst (ys.map V.str)) := by rw [← keys_str hPb.keys]; exact upd_same
    generalize upd (upd H l (.lst (ka.map fun kv => kV kv.1))) m (.lst (kb.map fun kv => kV kv.1)) = H2 at s2 h1 h2 ⊢
    refine ⟨.list (ys.map PyData.str), .list (ys.map PyData.str), .lst (SqL.of h1) (dpStrs _), .lst (SqL.of h2) (dpStrs _), strs_shaped hok, strs_shaped hok, _, rfl, ?_⟩
    rw [eqv_strs_refl]
    refine iteF ?_
    refine ⟨b, _, s2 _ _ hb, trivial, fun od => ?_⟩
    have hPa2 : Pr2 K (upd H2 b (.frz od (.dK kb))) ys (fun n => .int (lo n)) (fun n => .int (hi n)) ka := (hPa.up s2).set (s2 _ _ hb) (noTup_dK _)
    have hPb2 : Pr2 K (upd H2 b (.frz od (.dK kb))) ys (fun n => .int (lo n)) (fun n => .int (hi n)) kb := (hPb.up s2).set (s2 _ _ hb) (noTup_dK _)
    have ha2 : Rd (upd H2 b (.frz od (.dK kb))) a (.dK ka) := by
      by_cases e : a = b
      · subst e
        rw [ha] at hb
        rw [HO.dK.inj (Option.some.inj hb)]
        exact .inr ⟨od, upd_same⟩
      · exact .inl (by rw [upd_ne e]; exact s2 _ _ ha)
    have hb2 : upd H2 b (.frz od (.dK kb)) b = some (.frz od (.dK kb)) := upd_same
    refine ⟨_, rfl, b, od, rfl, .inl ⟨kb, upd_same, fun D hD => lc_it walk_keys (fun i H' => Same (upd H2 b (.frz od (.dK kb))) H' ∧ H' D = some (.lst ((List.replicate i true).map V.bl))) ⟨Same.new hD, upd_same⟩ (fun i H' _ z => z.1 _ _ upd_same) ?_ (fun H' z => ?_)⟩⟩
    · rintro i x H' H'' hi0 ⟨s3, hD'⟩ ⟨rfl, key, v, hkv, rfl⟩
      obtain ⟨hi1, a0, rfl, rfl, _⟩ := hPb2.get hkv
      have hm := List.getElem_mem hi1
      obtain ⟨a1, hv1, hq1⟩ := hPa2.val nd hm
      obtain ⟨a2, hv2, hq2⟩ := hPb2.val nd hm
      have dp : ∀ (a : Addr), SqT K H'' a [.int (lo ys[i]), .int (hi ys[i])] → Dp K H'' (.ref a) (.tuple [.int (lo ys[i]), .int (hi ys[i])]) := fun a h => .tup h (.cons (.int _) (.cons (.int _) .nil))
      refine ⟨rfl, _, rfl, _, rfl, a, .ref a1, rfl, .inl ⟨ka, .inr ys[i], rdUp ha2 s3, rfl, hv1.symm⟩, _, rfl, _, rfl, b, .ref a2, rfl, .inl ⟨kb, .inr ys[i], .inr ⟨od, s3 _ _ hb2⟩, rfl, hv2.symm⟩, _, _, _, rfl, dp _ (stUp hq1 s3), dp _ (stUp hq2 s3), by show PyData.depth (.tuple _) < 2; simp [PyData.depth, PyData.depthAll], rfl, fun H3 s4 => ?_⟩
      refine ⟨_, s4 _ _ hD', by rw [List.length_map, List.length_replicate]; rw [hPb.len] at hi0; exact Nat.lt_of_lt_of_le (show i < 64 by omega) (by decide), ?_, ?_⟩
      · exact fun b u e => by rw [upd_ne (ne_of_none e hD)]; exact s4 _ _ (s3 _ _ e)
      · rw [upd_same, List.replicate_succ', List.map_append]; rfl
    · obtain ⟨s3, hD'⟩ := z
      refine ⟨D, _, rfl, SqL.of hD', s3 _ _ hb2, ?_⟩
      rw [all_true]
      refine k _ fun x u e => ?_
      by_cases hx : x = b
      · subst hx; rw [hb] at e; cases e; exact upd_same
      · rw [upd_ne hx]; exact s3 _ _ (by rw [upd_ne hx]; exact s2 _ _ e)

/-! no list too long, none too deep -/
mutual
theorem tq_wid : ∀ d : PyData, tq d = true → wid d = true
  | .str s, _ => by simp [wid]
  | .int i, _ => by simp [wid]
  | .tuple xs, h => by
    simp only [tq, Bool.and_eq_true, decide_eq_true_eq] at h
    simp only [wid, Bool.and_eq_true, decide_eq_true_eq]
    exact ⟨by omega, tqAll_wid xs h.2⟩
  | .none, _ => by simp [wid]
  | .bool b, _ => by simp [wid]
  | .list xs, h => by simp [tq] at h
  | .dict kvs, h => by simp [tq] at h
theorem tqAll_wid : ∀ ds : List PyData, tqAll ds = true → widAll ds = true
  | [], _ => by simp [widAll]
  | d :: ds, h => by
    simp only [tqAll, Bool.and_eq_true] at h
    simp only [widAll, tq_wid d h.1, tqAll_wid ds h.2, Bool.and_self]
end
/-- what a dict holds for names -/
def gK (kv : List (Key × V)) (zs : List Str) : List (Key × V) := zs.map fun n => (.inr n, (valV kv (.inr n)).getD .non)
theorem gK_keys (kv : List (Key × V)) (zs : List Str) : (gK kv zs).map (·.1) = zs.map Sum.inr := by unfold gK; rw [List.map_map]; rfl
theorem gK_pr2 {H : Hp} {ms ys : List Str} {f g : Str → V} {kv : List (Key × V)} (h : Pr2 K H ms f g kv) (nd : ms.Nodup) (s : ∀ n ∈ ys, n ∈ ms) : Pr2 K H ys f g (gK kv ys) := by
  refine ⟨gK_keys _ _, fun i n e => ?_⟩
  obtain ⟨a, e1, e2⟩ := h.val nd (s n (List.mem_of_getElem? e))
  refine ⟨a, ?_, e2⟩
  unfold gK
  rw [List.getElem?_map, e, Option.map_some, e1]; rfl
theorem bnd_due {ds es : List PyData} (dl : ds.length ≤ 64) (el : es.length ≤ 64) (h1 : PyData.depthAll ds ≤ 2) (h2 : PyData.depthAll es ≤ 2) (t1 : tqAll ds = true) (t2 : tqAll es = true) :
    PyData.depth (.list [.list ds, .list es]) < 5 ∧ wid (.list [.list ds, .list es]) = true := by
  constructor
  · simp only [PyData.depth, PyData.depthAll]
    omega
  · simp only [wid, widAll, tqAll_wid _ t1, tqAll_wid _ t2, Bool.and_true, Bool.and_eq_true, decide_eq_true_eq, List.length_cons, List.length_nil]
    omega
/-! ### is it the meal -/
def spIsMeal (K : PySem.W.Frag) (C : Addr) : Sp := fun vs H Q _ => ∃ (p pd pw ps : Addr) (kv : List (Key × V)) (ms ys : List Str) (lo hi : Str → Int) (ds es : List PyData), vs = [.ref p, .ref pd, .ref pw, .ref ps] ∧ MlIn K C H p ys lo hi ds es ∧ H pd = some (.dK kv) ∧ Pr2 K H ms (fun n => .int (lo n)) (fun n => .int (hi n)) kv ∧ ys.Perm ms ∧ Dp K H (.ref pw) (.list ds) ∧ Dp K H (.ref ps) (.list es) ∧ ∀ H', Same H H' → Q (.bl true) H'
theorem ok_ismeal (T : Txt K mg A) : FnOk P w K mg base CX0 6 A.a__law_is_meal A.d__law_is_meal P__law_is_meal (spIsMeal K A.a_Meal) := by
  have G__law_rising : FnOk P w K mg base CX0 1 A.a__law_rising A.d__law_rising P__law_rising (spRising K) := ok_rising T
  have G__law_same_dict : FnOk P w K mg base CX0 3 A.a__law_same_dict A.d__law_same_dict P__law_same_dict (spSameB K) := ok_sameb T
  have G__law_same : FnOk P w K mg base CX0 5 A.a__law_same A.d__law_same P__law_same (spSame K 5) := ok_same T 5
  have G_Meal_dishes : FnOk P w K mg base CX0 1 A.a_Meal_dishes A.d_Meal_dishes P_Meal_dishes (spMDishes K A.a_Meal) := ok_mdishes T
  have G_Meal_wishes : FnOk P w K mg base CX0 1 A.a_Meal_wishes A.d_Meal_wishes P_Meal_wishes (spMWishes K A.a_Meal) := ok_mwishes T
  have G_Meal_stations : FnOk P w K mg base CX0 1 A.a_Meal_stations A.d_Meal_stations P_Meal_stations (spMStations K A.a_Meal) := ok_mstations T
  refine T.f__law_is_meal.ok sc__law_is_meal (fun vs H Q E h => ?_) (fun cdv A' outer s H vs Q E hr h => ?_)
  · obtain ⟨p, pd, pw, ps, kv, ms, ys, lo, hi, ds, es, rfl, _⟩ := h
    rfl
  · obtain ⟨p, pd, pw, ps, kv, ms, ys, lo, hi, ds, es, rfl, M, hd, hP, hperm, hw, hs, k⟩ := h
    refine ⟨_, (pss_cons (ps_set (i := 4) sc__law_is_meal.nd rfl (Or.inl rfl) (pe_callTy (call_dictP rfl) (by rfl) T.dict (by decide +kernel) (pa_cons (pe_lc (own := [("_law_name", 5)]) (g := gName 5) (by rfl) sc__law_is_meal.nd (pi_list (pe_call G__law_rising (hr.mono (by omega)) (by rfl) T.g__law_rising T.f__law_rising.kp T.b__law_rising .nil pass0 (pa_cons (pv 1) pa_nil))) (blkOk_by (N := N__law_is_meal) (sc := defScope s__law_is_meal) (by decide +kernel)) (fun _ _ _ _ _ => pg_name (i := 5) sc__law_is_meal.nd rfl (Or.inl rfl)) (fun _ _ _ _ _ => pts_nil) (fun _ _ _ _ _ => (pe_tup (pa_cons (pv 5) (pa_cons (pe_dget (hu_of hr) (pv 1) (pv 5) (fun _ _ => rfl)) pa_nil))))) pa_nil)))
 (pss_cons (ps_if (PW.pt (pw_or (pt_not (pt_val (pe_callB call_isi (by rfl) T.isinstance (by decide +kernel) (pa_cons (pv 0) (pa_cons (pe_glob (v := .ref A.a_Meal) (by rfl) T.g_Meal rfl) pa_nil))))) (pw_or1 (pt_not (pt_val (pe_call G__law_same_dict (hr.mono (by omega)) (by rfl) T.g__law_same_dict T.f__law_same_dict.kp T.b__law_same_dict .nil pass0 (pa_cons (pe_meth0 (pv 0) T.cl_M T.m_dishes G_Meal_dishes (hr.mono (by omega)) T.b_Meal_dishes .nil pass0) (pa_cons (pv 4) pa_nil))))))))
 (pss_one (ps_ret pe_bl))
 pss_nil)
 (pss_one (ps_ret (pe_call G__law_same (hr.mono (by omega)) (by rfl) T.g__law_same T.f__law_same.kp T.b__law_same .nil pass0 (pa_cons (pe_lst (pa_cons (pe_meth0 (pv 0) T.cl_M T.m_wishes G_Meal_wishes (hr.mono (by omega)) T.b_Meal_wishes .nil pass0) (pa_cons (pe_meth0 (pv 0) T.cl_M T.m_stations G_Meal_stations (hr.mono (by omega)) T.b_Meal_stations .nil pass0) pa_nil))) (pa_cons (pe_lst (pa_cons (pv 2) (pa_cons (pv 3) pa_nil))) pa_nil))))))), ?_⟩
    obtain ⟨dx, _, _, _, _, _, _, hp, _⟩ := id M.m.ex
    have nM : ms.Nodup := hperm.nodup_iff.mp M.nd
    have yl := M.yl
    have ml : ms.length ≤ 30 := Nat.le_trans (Nat.le_of_eq hperm.length_eq.symm) yl
    refine ⟨_, rfl, pd, ms, rfl, .inr ⟨kv, hd, hP.keys⟩, by omega, fun q zs H1 zp zsr nq s1 hq => ?_⟩
    obtain rfl : ys = zs := asc_eq (hperm.trans zp.symm) M.srt zsr
    refine ⟨q, rfl, ⟨_, SqL.of hq⟩, fun D nD => ?_⟩
    have hP1 := hP.up s1
    have hd1 := s1 _ _ hd
    refine lc_it (walk_list (K := K) (a := q) (xs := ys.map V.str)) (fun j H' => ∃ qs : List Addr, H' D = some (.lst (qs.map V.ref)) ∧ Paired (fun p (kv : Key × V) => SqT K H' p [kV kv.1, kv.2]) qs (gK kv (ys.take j)) ∧ Same H1 H')
      ⟨[], upd_same, .nil, Same.new nD⟩ (fun j H' _ z => ?_) ?_ (fun H2 z => ?_)
    · obtain ⟨_, _, _, z⟩ := z
      exact SqL.of (z _ _ hq)
    · rintro j x H' H'' hj ⟨qs, hD1, hQ, s2⟩ ⟨rfl, hx⟩
      obtain ⟨hj1, rfl⟩ := str_at hx
      have mj : ys[j] ∈ ms := hperm.mem_iff.mp (List.getElem_mem hj1)
      obtain ⟨a, hv, hqa⟩ := (hP1.up s2).val nM mj
      refine ⟨rfl, _, rfl, _, rfl, _, rfl, pd, .ref a, rfl, .inl ⟨kv, .inr ys[j], .inl (s2 _ _ hd1), rfl, hv.symm⟩, by show 2 ≤ sizeLine; decide, fun t nt => ?_⟩
      have s3 := Same.new nt (o := .tup [kV (.inr ys[j]), .ref a])
      have e1 : ys.take (j + 1) = ys.take j ++ [ys[j]] := by rw [List.take_succ, List.getElem?_eq_getElem hj1]; rfl
      have ql : qs.length ≤ 30 := by
        rw [hQ.length]; unfold gK; rw [List.length_map, List.length_take]; omega
      have hD3 := s3 _ _ hD1
      refine ⟨_, hD3, by rw [List.length_map]; exact Nat.lt_of_le_of_lt ql (by decide), qs ++ [t], by rw [upd_same, List.map_append]; rfl, ?_, fun b u e => by rw [upd_ne (ne_of_none e nD)]; exact s3 _ _ (s2 _ _ e)⟩
      have eg : gK kv (ys.take (j + 1)) = gK kv (ys.take j) ++ [(.inr ys[j], .ref a)] := by
        unfold gK; rw [e1, List.map_append, List.map_cons, List.map_nil, hv]; rfl
      rw [eg]
      exact paired_snoc (paired_imp (fun p (kv : Key × V) z => tupSet hD3 (noTup_lst _) (stUp z s3)) hQ) (tupSet hD3 (noTup_lst _) (SqT.of upd_same))
    obtain ⟨qs, hD1, hQ, s2⟩ := z
    rw [List.length_map, List.take_length] at hQ
    refine ⟨D, qs, _, rfl, SqL.of hD1, hQ, fun pe npe => ?_⟩
    rw [merge_all _ [] (by rw [List.nil_append, gK_keys]; exact inr_nd M.nd), List.nil_append]
    have S3 := (s1.trans s2).trans (Same.new npe (o := .dK (gK kv ys)))
    have he : upd H2 pe (.dK (gK kv ys)) pe = some (.dK (gK kv ys)) := upd_same
    generalize upd H2 pe (.dK (gK kv ys)) = H3 at S3 he ⊢
    have hp3 := S3 _ _ hp
    refine ⟨_, rfl, _, _, .ref A.a_Meal, _, true, rfl, .own _, .base (.ins hp3 T.cl_M T.aC T.aG T.aT T.mO), T.kMM, _, rfl, iteF ?_⟩
    refine ⟨_, rfl, p, dx, _, rfl, hp3, rfl, p, ys, lo, hi, ds, es, rfl, M.m.up S3, fun l H4 kv4 nl s4 hl P4 => ?_⟩
    refine ⟨_, rfl, l, pe, ys, lo, hi, kv4, _, rfl, hl, s4 _ _ he, P4, gK_pr2 (hP.up (S3.trans s4)) nM (fun n m => hperm.mem_iff.mp m), M.nd, by omega, fun n m => (M.nm n m).1.2, fun H5 s5 => ?_⟩
    refine ⟨_, rfl, iteF ?_⟩
    have S5 := (S3.trans s4).trans s5
    refine ⟨_, rfl, p, dx, _, rfl, S5 _ _ hp, rfl, p, ys, lo, hi, ds, es, rfl, M.m.up S5, fun l2 ws2 nl2 A2 => ?_⟩
    have S6 := S5.trans (Same.new nl2 (o := .lst ws2))
    refine ⟨_, rfl, p, dx, _, rfl, S6 _ _ hp, rfl, p, ys, lo, hi, ds, es, rfl, M.m.up S6, fun l3 ps3 nl3 A3 => ?_⟩
    have s7 := Same.new nl3 (o := .lst ps3)
    have S7 := S6.trans s7
    refine ⟨by show 2 ≤ sizeLine; decide, fun q1 nq1 => ?_⟩
    have s8 := Same.new nq1 (o := .lst [.ref l2, .ref l3])
    have S8 := S7.trans s8
    refine ⟨_, rfl, _, rfl, by show 2 ≤ sizeLine; decide, fun q2 nq2 => ?_⟩
    have s9 := Same.new nq2 (o := .lst [.ref pw, .ref ps])
    have S9 := S8.trans s9
    obtain ⟨_, dd, tqd⟩ := lay_all fun d m => wshN_lay (fun n q => (M.nm n q).1.2) (M.w d m)
    obtain ⟨_, de, tqe⟩ := lay_all fun d m => stnN_lay (fun n q => (M.nm n q).1.2) (M.s d m)
    have dl := M.dl
    have el := M.el
    obtain ⟨b1, b2⟩ := bnd_due (ds := ds) (es := es) (by omega) (by omega) dd de tqd tqe
    refine ⟨_, _, _, rfl, ?_, .lst (SqL.of upd_same) (.cons (dpSame S9 hw) (.cons (dpSame S9 hs) .nil)), b1, b2, fun H' s' => k H' (S9.trans s')⟩
    exact .lst (SqL.of (s9 _ _ upd_same)) (.cons (.lst (SqL.of (s9 _ _ (s8 _ _ (s7 _ _ upd_same)))) (dpAllSame (((Same.new nl2).trans s7).trans (s8.trans s9)) A2)) (.cons (.lst (SqL.of (s9 _ _ (s8 _ _ upd_same))) (dpAllSame (s7.trans (s8.trans s9)) A3)) .nil))
end
end K5
set_option Elab.async false
set_option linter.all false
set_option maxRecDepth 100000
set_option maxHeartbeats 4000000
namespace K5
open PySem L2
local macro_rules | `(tactic| walk_at "rd1") => `(tactic| first
  | refine ⟨_, _, rfl, rfl, ?_⟩
  | refine ⟨_, _, _, _, rfl, rfl, SqL.of (by assumption), rfl, ?_⟩
  | refine ⟨_, _, _, _, rfl, rfl, (by assumption), rfl, ?_⟩
  | refine .inl ⟨_, rfl, ?_⟩
  | refine ⟨_, rfl, ?_⟩
  | refine ⟨(by unfold CMul; omega), ?_⟩
  | refine ⟨(by unfold CPow; omega), ?_⟩
  | refine ⟨(by (try dsimp only); omega), ?_⟩
  | refine ⟨(by unfold CDiv; omega), ?_⟩
  | fail "rd1")
local macro_rules | `(tactic| walk_at "rd") => `(tactic| repeat' (walk_at "rd1"))
section
variable {P : Program} {w : World} {K : PySem.W.Frag} {mg : Str → Option Value} {base : Heap} {A : Ad}

open Own
/-! ### the heap without its tables -/
def nt (H : Hp) : Hp := fun a => match H a with | some (.tbl _) => none | o => o
theorem nt_ne {H : Hp} {a : Addr} {o : HO} (h : nt H a = some o) : ∀ ps, o ≠ .tbl ps := fun ps e => by
  subst e
  unfold nt at h
  cases e : H a with
  | none => rw [e] at h; cases h
  | some u => rw [e] at h; cases u <;> cases h
theorem nt_some {H : Hp} {a : Addr} {o : HO} (h : nt H a = some o) : H a = some o := by
  unfold nt at h
  cases e : H a with
  | none => rw [e] at h; cases h
  | some u => rw [e] at h; cases u <;> first | exact h | cases h
theorem nt_of {H : Hp} {a : Addr} {o : HO} (h : H a = some o) (n : ∀ ps, o ≠ .tbl ps) : nt H a = some o := by
  unfold nt
  rw [h]
  cases o <;> first | rfl | exact absurd rfl (n _)
theorem nt_same {H : Hp} : Same (nt H) H := fun _ _ h => nt_some h
theorem nt_mono {H H' : Hp} (s : Same H H') : Same (nt H) (nt H') := fun _ _ h => nt_of (s _ _ (nt_some h)) (nt_ne h)
/-- all but the draws' state and the tables -/
def nE (H : Hp) (st : Addr) : Hp := nt (er H st)
theorem nE_same {H : Hp} {st : Addr} : Same (nE H st) H := nt_same.trans (er_same _ _)
theorem nE_mono {H H' : Hp} {st : Addr} (s : Same H H') : Same (nE H st) (nE H' st) := nt_mono (er_mono s)
theorem nE_gs {H H' : Hp} {st c : Addr} {b : Int} (g : Gs st c H H' b) : Same (nE H st) (nE H' st) := nt_mono g.same
theorem nE_ext {H H' : Hp} {st : Addr} (e : LamX.ExtN H H') : Same (nE H st) (nE H' st) := fun _ _ h => by
  have q := er_some (nt_some h)
  exact nt_of (er_of q.1 (e _ _ q.2 (nt_ne h))) (nt_ne h)
theorem nE_of {H : Hp} {st a : Addr} {o : HO} (h : er H st a = some o) (n : ∀ ps, o ≠ .tbl ps) : nE H st a = some o := nt_of h n
theorem sqtNt {H : Hp} {a : Addr} {xs : List V} (h : SqT K H a xs) : SqT K (nt H) a xs := by
  rcases h with (h | ⟨o, h⟩) | h
  · exact .inl (.inl (nt_of h fun _ z => nomatch z))
  · exact .inl (.inr ⟨o, nt_of h fun _ z => nomatch z⟩)
  · exact .inr h
theorem Pr2.nt {H : Hp} {ns : List Str} {f g : Str → V} {kvs : List (Key × V)} (h : Pr2 K H ns f g kvs) : Pr2 K (nt H) ns f g kvs :=
  ⟨h.keys, fun i n e => by obtain ⟨a, e1, e2⟩ := h.at_ i n e; exact ⟨a, e1, sqtNt e2⟩⟩
theorem nt_ext {H H' : Hp} (e : LamX.ExtN H H') : Same (nt H) (nt H') := fun _ _ h => nt_of (e _ _ (nt_some h) (nt_ne h)) (nt_ne h)
theorem ext_nt {H H' : Hp} (s : Same (nt H) (nt H')) : LamX.ExtN H H' := fun _ _ h n => nt_some (s _ _ (nt_of h n))
theorem nt_upd {H0 H : Hp} {L : Addr} {o : HO} (s : Same (nt H0) (nt H)) (n : nt H0 L = none) : Same (nt H0) (nt (upd H L o)) := fun b u e => by
  have q := s _ _ e
  exact nt_of (by rw [upd_ne (ne_of_none e n)]; exact nt_some q) (nt_ne q)
theorem nt_free {H0 H : Hp} {L : Addr} (s : Same (nt H0) (nt H)) (n : H L = none) : nt H0 L = none := by
  cases e : nt H0 L with
  | none => rfl
  | some u => rw [nt_some (s _ _ e)] at n; cases n
theorem sqlNt {H : Hp} {a : Addr} {xs : List V} (h : SqL K H a xs) : SqL K (nt H) a xs := by
  rcases h with (h | ⟨o, h⟩) | h
  · exact .inl (.inl (nt_of h fun _ z => nomatch z))
  · exact .inl (.inr ⟨o, nt_of h fun _ z => nomatch z⟩)
  · exact .inr h
mutual
theorem dpNt {H : Hp} : ∀ {v : V} {d : PyData}, Dp K H v d → Dp K (nt H) v d
  | _, _, .non => .non
  | _, _, .bl b => .bl b
  | _, _, .int i => .int i
  | _, _, .str x => .str x
  | _, _, .lst h q => .lst (sqlNt h) (dpAllNt q)
  | _, _, .tup h q => .tup (sqtNt h) (dpAllNt q)
theorem dpAllNt {H : Hp} : ∀ {vs : List V} {ds : List PyData}, DpAll K H vs ds → DpAll K (nt H) vs ds
  | _, _, .nil => .nil
  | _, _, .cons a b => .cons (dpNt a) (dpAllNt b)
end
theorem sdNt {n : Nat} {H : Hp} {x y : V} (h : SD K n H x y) : SD K n (nt H) x y :=
  h.elim (fun ⟨d, a, b, c⟩ => .inl ⟨d, dpNt a, dpNt b, c⟩) fun ⟨a, b, e1, e2, h1, h2⟩ => .inr ⟨a, b, e1, e2, nt_of h1 (fun _ z => nomatch z), nt_of h2 (fun _ z => nomatch z)⟩

theorem MlIn.nt {C : Addr} {H : Hp} {p : Addr} {ys : List Str} {lo hi : Str → Int} {ds es : List PyData} (M : MlIn K C H p ys lo hi ds es) : MlIn K C (nt H) p ys lo hi ds es := by
  obtain ⟨dx, qb, qw, qp, kvs, ws, ps, hp, hb, hP, hw, hA, hq, hZ⟩ := M.m.ex
  exact ⟨⟨dx, qb, qw, qp, kvs, ws, ps, nt_of hp (fun _ z => nomatch z), nt_of hb (fun _ z => nomatch z), hP.nt, sqtNt hw, dpAllNt hA, sqtNt hq, dpAllNt hZ⟩, M.nd, M.nm, M.yl, M.srt, M.w, M.dl, M.s, M.el⟩
theorem SmM.nt {C : Addr} {H : Hp} {x y : V} (h : SmM K C H x y) : SmM K C (nt H) x y := by
  obtain ⟨a, b, ys, lo, hi, ds, es, e1, e2, h1, h2⟩ := h
  exact ⟨a, b, ys, lo, hi, ds, es, e1, e2, h1.nt, h2.nt⟩
theorem LF.nt {C : Addr} {n : Nat} {H : Hp} {x y : V} (h : LF K C n H x y) : LF K C n (nt H) x y := h.imp sdNt SmM.nt
/-! ### tables -/
def qL : Str := (Str.ofString "law" ++ ".<locals>.") ++ "<lambda>"
def qJ : Str := (Str.ofString "_law_are_joined" ++ ".<locals>.") ++ "<lambda>"
def T2 (P1 P2 : Addr) : List (Addr × Str) := [(P1, qL), (P2, qJ)]
theorem uqL {P1 P2 : Addr} (n : P1 ≠ P2) : ∀ p ∈ T2 P1 P2, p.1 = P1 → p.2 = qL := fun p hp e => by
  rcases List.mem_cons.mp hp with z | z
  · rw [z]
  · rw [List.mem_singleton.mp z] at e; exact absurd e.symm n
theorem uqJ {P1 P2 : Addr} (n : P1 ≠ P2) : ∀ p ∈ T2 P1 P2, p.1 = P2 → p.2 = qJ := fun p hp e => by
  rcases List.mem_cons.mp hp with z | z
  · rw [z] at e; exact absurd e n
  · rw [List.mem_singleton.mp z]
theorem ok_some (T : Txt K mg A) : FnOk P w K mg base CX0 2 A.a__law_some A.d__law_some P__law_some (spSome K) := by
  have G__law_take : FnOk P w K mg base CX0 1 A.a__law_take A.d__law_take P__law_take spTake := ok_take T
  refine T.f__law_some.ok sc__law_some (fun vs H Q E h => ?_) (fun cdv A' outer s H vs Q E hr h => ?_)
  · obtain ⟨st, c, t, ss, b, rfl, _⟩ := h
    rfl
  · obtain ⟨st, c, t, ss, b, rfl, S, hb, hS, hl, k⟩ := h
    refine ⟨_, (pss_one (ps_ret (pe_lc (own := [("_law_thing", 2)]) (g := gName 2) (by rfl) sc__law_some.nd (pi_list (pv 1)) (blkOk_by (N := N__law_some) (sc := defScope s__law_some) (by decide +kernel)) (fun _ _ _ _ _ => pg_name (i := 2) sc__law_some.nd rfl (Or.inl rfl)) (fun _ _ _ _ _ => pts_one (pt_cmpR op_eq (pe_call G__law_take (hr.mono (by omega)) (by rfl) T.g__law_take T.f__law_take.kp T.b__law_take .nil pass0 (pa_cons (pv 0) (pa_cons pe_int pa_nil))) pe_int (nomark _))) (fun _ _ _ _ _ => (pv 2))))), ?_⟩
    refine ⟨_, rfl, t, rfl, ⟨_, sqEr hS⟩, fun D hD => lc_list (K := K) (a := t) (xs := ss.map V.str)
      (fun i H' => ∃ ys : List Str, ys.Sublist (ss.take i) ∧ H' D = some (.lst (ys.map V.str)) ∧ Gs st c H H' (b + (i : Int))) ?_ ?_ ?_ ?_⟩
    · exact ⟨[], List.nil_sublist _, upd_same, by simpa using (Gs.refl S).new hD⟩
    · exact fun i H' _ ⟨_, _, _, g⟩ => sqEr (sqUp hS g.same)
    · rintro i x H' hx ⟨ys, hy, hD', g⟩
      have hi : i < ss.length := by
        have := (List.getElem?_eq_some_iff.mp hx).1
        rwa [List.length_map] at this
      have ex : x = V.str ss[i] := by
        rw [List.getElem?_map, List.getElem?_eq_getElem hi] at hx
        exact (Option.some.inj hx).symm
      subst ex
      have nD : D ≠ st := S.ne hD
      have eD : er H st D = none := er_none hD
      have hyl : ys.length ≤ 64 := Nat.le_trans hy.length_le (by rw [List.length_take]; omega)
      refine ⟨rfl, _, rfl, st, c, 2, _, rfl, g.sta, by omega, by omega, by omega, fun r o hr0 hr1 S' => ⟨rfl, _, rfl, ?_⟩⟩
      have g2 : Gs st c H (upd H' st o) (b + ((i + 1 : Nat) : Int)) := by
        have := g.trans (Gs.of_upd S')
        rwa [show b + (i : Int) + 1 = b + ((i + 1 : Nat) : Int) by omega] at this
      have hD2 : upd H' st o D = some (.lst (ys.map V.str)) := by rw [upd_ne nD]; exact hD'
      have et : ss.take (i + 1) = ss.take i ++ [ss[i]] := by rw [List.take_succ, List.getElem?_eq_getElem hi]; rfl
      refine ite2 (fun _ => ?_) (fun _ => ?_)
      · refine ⟨_, rfl, _, hD2, by rw [List.length_map]; exact Nat.lt_of_le_of_lt hyl (by decide), ys ++ [ss[i]], ?_, ?_, g2.set S.hc eD nD⟩
        · rw [et]; exact hy.append (List.Sublist.refl _)
        · rw [upd_same, List.map_append]; rfl
      · exact ⟨ys, by rw [et]; exact hy.trans (List.sublist_append_left _ _), hD2, g2⟩
    · rintro H' ⟨ys, hy, hD', g⟩
      rw [List.length_map, List.take_length] at hy
      exact k D ys H' hy (g.le (by rw [List.length_map]; omega) hb) (er_of (S.ne hD) hD') (er_none hD)
open LamX (Tabs TabS ExtN) in
structure Bd (st c P1 P2 : Addr) (b : Int) (H : Hp) : Prop where
  sta : Sta H st c b
  tab : Tabs (T2 P1 P2) H
theorem tab_gs {st c P1 P2 : Addr} {b : Int} {H H' : Hp} (S : Sta H st c b) (t : LamX.Tabs (T2 P1 P2) H) (s : Same (er H st) (er H' st)) : LamX.Tabs (T2 P1 P2) H' := fun p hp => by
  obtain ⟨ps, h1, h2, h3⟩ := t p hp
  obtain ⟨cs, i, l, m, n, e1, _⟩ := S.ex
  have up : ∀ x o, H x = some o → (∀ xs, o ≠ .lst xs) → H' x = some o := fun x o e ne => (er_same _ _) _ _ (s _ _ (er_of (fun z => by rw [z, e1] at e; exact ne _ (Option.some.inj e).symm) e))
  refine ⟨ps, up _ _ h1 (fun xs z => by cases z), h2, fun pos cv hc => ?_⟩
  obtain ⟨c2, e2, e3⟩ := h3 pos cv hc
  exact ⟨c2, e2, up _ _ e3 (fun xs z => by unfold LamX.CodeO at z; cases z)⟩
theorem Bd.gs {st c P1 P2 : Addr} {b b' : Int} {H H' : Hp} (B : Bd st c P1 P2 b H) (g : Gs st c H H' b') : Bd st c P1 P2 b' H' := ⟨g.sta, tab_gs B.sta B.tab g.same⟩
theorem Bd.same {st c P1 P2 : Addr} {b : Int} {H H' : Hp} (B : Bd st c P1 P2 b H) (s : Same H H') : Bd st c P1 P2 b H' := B.gs (Gs.of_same B.sta s)
theorem Bd.ext {st c P1 P2 : Addr} {b : Int} {H H' : Hp} (B : Bd st c P1 P2 b H) (e : LamX.ExtN H H') (t : LamX.Tabs (T2 P1 P2) H') : Bd st c P1 P2 b H' := by
  obtain ⟨cs, i, l, m, n, e1, e2, r⟩ := B.sta.ex
  exact ⟨⟨cs, i, l, m, n, e _ _ e1 (fun _ z => by unfold five at z; cases z), er_of (er_some e2).1 (e _ _ (er_some e2).2 (fun _ z => by cases z)), r⟩, t⟩
theorem Bd.le {st c P1 P2 : Addr} {b b' : Int} {H : Hp} (B : Bd st c P1 P2 b H) (hb : b ≤ b') (h9 : b' ≤ 1000000) : Bd st c P1 P2 b' H := ⟨B.sta.le hb h9, B.tab⟩
theorem takes_len {X : Cx} {W : WX} (t : Takes X W) : Takes X (fun c d σ H => σ.length = X.N.length → W c d σ H) := fun u s' ⟨a, B, sI, pins, σ, H, cls, d, e, I, nb, up, sky, na, os, ag, w⟩ =>
  t u s' ⟨a, B, sI, pins, σ, H, cls, d, e, I, nb, up, sky, na, os, ag, w I.len⟩
theorem three {α : Type} {xs : List α} (h : xs.length = 3) : ∃ x y z, xs = [x, y, z] := match xs, h with | [x, y, z], _ => ⟨x, y, z, rfl⟩
/-! ### what is tried -/
abbrev EchT (CW CC : Addr) (Q : VK) : XK := fun cls d H' => (cls = .ref CW ∧ ∃ dd y, d = some dd ∧ H' dd = some (.xd [("index", y)]) ∧ ∀ t, H' t = none → Q (.ref t) (upd H' t (.tup [.str "wish", y]))) ∨ (cls = .ref CC ∧ ∃ dd y, d = some dd ∧ H' dd = some (.xd [("name", y)]) ∧ ∀ t, H' t = none → Q (.ref t) (upd H' t (.tup [.str "clash", y])))
def TTtried (CW CC : Addr) : (XK → Hp → VK → Prop) → Hp → VK → Prop := fun tl H Q =>
  tl (EchT CW CC Q) H (fun v H1 => [V.str "told", v].length ≤ sizeLine ∧ ∀ t, H1 t = none → ∃ u, (some (some (V.ref t)) : Option (Option V)) = some (some u) ∧ Q u (upd H1 t (.tup [.str "told", v])))
theorem tried_gives {X : Cx} {q : Str} {cdg : Value} (T : Txt X.K X.mg A) :
    LamX.GivesTo X N__law_tried "_law_tried" (defScope s__law_tried) A.a__law_tried cdg (defBody s__law_tried) "_law_ask" q (TTtried A.a_NoWish A.a_Clash) := by
  intro f c' s H Q tl act hc h
  refine ⟨_, pss_cons (ps_set (i := 1) sc__law_tried.nd rfl (Or.inl rfl) pe_non) (pss_cons (Own.ps_clauses
      (tb := fun (W : WX) D σ H => ∃ Ech : XK, (∀ (cls : Value) (d : Option Addr) (σ' : St) (H' : Hp), Ech cls d H' → σ'.length = 3 → W cls d σ' H') ∧ σ[0]? = some (some (.ref f)) ∧ H c' = some (LamX.CodeO c' q) ∧ tl Ech H fun v H1 => [V.str "told", v].length ≤ sizeLine ∧ ∀ t, H1 t = none → D.nx (σ.set 1 (some (.ref t))) (upd H1 t (.tup [.str "told", v])))
      rfl rfl sc__law_tried.nd takes0 (fun W pn xe tk _ => ?_)
      (.named (i := 2) rfl rfl ⟨rfl, by decide, .inl T.g_NoWish⟩ (fun a oe cls d pn hz hf => pss_one (ps_set (i := 1) sc__law_tried.nd rfl (Or.inl rfl) (pe_tup (pa_cons pe_str (pa_cons (pe_xf T.xfWi T.nWi hz hf (pv 2)) pa_nil)))))
        (.named (i := 2) rfl rfl ⟨rfl, by decide, .inl T.g_Clash⟩ (fun a oe cls d pn hz hf => pss_one (ps_set (i := 1) sc__law_tried.nd rfl (Or.inl rfl) (pe_tup (pa_cons pe_str (pa_cons (pe_xf T.xfCl T.nCl hz hf (pv 2)) pa_nil))))) .nil))) (pss_one (ps_ret (pv 1)))), ?_⟩
  · refine ⟨fun pins s' σ H' D I h' => ?_⟩
    obtain ⟨Ech, hW, h1, h2, h3⟩ := h'
    have hp := fun p1 p2 => act (fun c d σ H => σ.length = 3 → W c d σ H) pn xe Ech p1 p2 (takes_len tk) hW
    exact PSs.run (pss_one (ps_set (i := 1) sc__law_tried.nd rfl (Or.inl rfl) (pe_tup (pa_cons pe_str (pa_cons (hp _ _) pa_nil))))) pins s' σ H' D I ⟨h1, h2, h3⟩
  · refine ⟨_, ?_, rfl, hc, h⟩
    rintro cls d σ' H' (⟨rfl, dd, y, rfl, hdd, k⟩ | ⟨rfl, dd, y, rfl, hdd, k⟩) hl
    · obtain ⟨x0, x1, x2, rfl⟩ := three hl
      refine ⟨true, T.eWW, fun _ a ha => ?_, fun z => nomatch z⟩
      exact ⟨_, rfl, rfl, rfl, dd, _, y, rfl, hdd, rfl, by show 2 ≤ sizeLine; decide, fun t ht => ⟨_, rfl, k t ht⟩⟩
    · obtain ⟨x0, x1, x2, rfl⟩ := three hl
      refine ⟨false, T.eCW, (fun z => nomatch z), fun _ => ⟨true, T.eCC, fun _ a ha => ?_, fun z => nomatch z⟩⟩
      exact ⟨_, rfl, rfl, rfl, dd, _, y, rfl, hdd, rfl, by show 2 ≤ sizeLine; decide, fun t ht => ⟨_, rfl, k t ht⟩⟩
/-- the first of a rising list that is among others is the least of these -/
theorem find_min {us rs ss : List Str} {q : Str → Bool} (us1 : PyProof.Rows.sortedS us = true) (un : us.Nodup) (rp : rs.Perm ss) (rsr : rs.Pairwise sle) (sn : ss.Nodup) (h : ∀ n, n ∈ us ∧ q n = true ↔ n ∈ ss) : us.find? q = rs.head? := by
  have p1 : (us.filter q).Perm ss := (List.perm_ext_iff_of_nodup (un.filter _) sn).mpr fun n => by rw [List.mem_filter]; exact h n
  have s1 : (us.filter q).Pairwise sle := (sle_sorted us1).filter _
  have e : us.filter q = rs := List.Perm.eq_of_pairwise (fun a b _ _ h1 h2 => sle_anti h1 h2) s1 rsr (p1.trans rp.symm)
  rw [← e, List.head?_filter]
end
end K5
set_option Elab.async false
set_option linter.all false
set_option maxRecDepth 100000
set_option maxHeartbeats 4000000
namespace K5
open PySem L2
local macro_rules | `(tactic| walk_at "rd1") => `(tactic| first
  | refine ⟨_, _, rfl, rfl, ?_⟩
  | refine ⟨_, _, _, _, rfl, rfl, SqL.of (by assumption), rfl, ?_⟩
  | refine ⟨_, _, _, _, rfl, rfl, (by assumption), rfl, ?_⟩
  | refine .inl ⟨_, rfl, ?_⟩
  | refine ⟨_, rfl, ?_⟩
  | refine ⟨(by unfold CMul; omega), ?_⟩
  | refine ⟨(by unfold CPow; omega), ?_⟩
  | refine ⟨(by (try dsimp only); omega), ?_⟩
  | refine ⟨(by unfold CDiv; omega), ?_⟩
  | fail "rd1")
local macro_rules | `(tactic| walk_at "rd") => `(tactic| repeat' (walk_at "rd1"))
section
variable {P : Program} {w : World} {K : PySem.W.Frag} {mg : Str → Option Value} {base : Heap} {A : Ad}

open Own
theorem paired_app {α β : Type} {R : α → β → Prop} : ∀ {xs us : List α} {ys vs : List β}, Paired R xs ys → Paired R us vs → Paired R (xs ++ us) (ys ++ vs)
  | _, _, _, _, .nil, h => h
  | _, _, _, _, .cons a b, h => .cons a (paired_app b h)
theorem MlIn.ext {C : Addr} {H H' : Hp} {p : Addr} {ys : List Str} {lo hi : Str → Int} {ds es : List PyData} (M : MlIn K C H p ys lo hi ds es) (e : LamX.ExtN H H') : MlIn K C H' p ys lo hi ds es := (M.nt.up (nt_ext e)).up nt_same
theorem atI0 {α : Type} (x : α) (r : List α) : atI (x :: r) 0 = some x := by
  unfold atI ixN
  rw [if_pos (by omega)]
  simp
def spJoin (K : PySem.W.Frag) (C P1 P2 : Addr) : Sp := fun vs H Q _ => ∃ (st c p pm po : Addr) (b : Int) (ms ys zs : List Str) (lo hi lo2 hi2 : Str → Int) (ds es : List PyData) (ko : List (Key × V)), vs = [.ref st, .ref p, .ref pm, .ref po] ∧ Bd st c P1 P2 b H ∧ b + 64 ≤ 1000000 ∧ MlIn K C (nE H st) p ys lo hi ds es ∧ SqL K (er H st) pm (ms.map V.str) ∧ ys.Perm ms ∧
  nE H st po = some (.dK ko) ∧ Pr2 K (nE H st) zs (fun n => .int (lo2 n)) (fun n => .int (hi2 n)) ko ∧ zs.Nodup ∧ (∀ n ∈ zs, (Nm n ∧ PyData.strOk n = true) ∧ 1 ≤ lo2 n ∧ lo2 n ≤ hi2 n) ∧ (∀ n ∈ ys, n ∉ zs) ∧ ys.length + (zs.length + ys.length) ≤ 30 ∧
  ∀ H', Same (nE H st) (nE H' st) → Bd st c P1 P2 (b + 64) H' → Q (.bl true) H'
theorem ok_joined (T : Txt K mg A) {oc kW doc pm ct : Value} {od an : Option Addr} {osl : Array (Option Value)} {cJ P1 P2 : Addr} (lk : K.lookup A.a__law_are_joined = some ⟨oc, od, .func (PySem.W.fnOf "_law_are_joined" "_law_are_joined" (defArgs s__law_are_joined) (defBody s__law_are_joined) (defScope s__law_are_joined) .none kW doc pm an (.ref cJ) ct), osl⟩) (hcd : PySem.W.codeIn K (.ref cJ) "_law_are_joined" = true)
    (nPP : P1 ≠ P2) (TBJ : LamX.TabB base mg cJ P2) : FnOk P w K mg base CX0 11 A.a__law_are_joined A.d__law_are_joined P__law_are_joined (spJoin K A.a_Meal P1 P2) := by
  have G__law_some : FnOk P w K mg base CX0 2 A.a__law_some A.d__law_some P__law_some (spSome K) := ok_some T
  have G__law_rising : FnOk P w K mg base CX0 1 A.a__law_rising A.d__law_rising P__law_rising (spRising K) := ok_rising T
  have G__law_same : FnOk P w K mg base CX0 3 A.a__law_same A.d__law_same P__law_same (spPair K A.a_Meal 1) := ok_pair T 0
  have G_Meal___init__ : FnOk P w K mg base CX0 5 A.a_Meal___init__ A.d_Meal___init__ P_Meal___init__ (spInit K A.a_Meal) := ok_init T
  have G_Meal___add__ : FnOk P w K mg base (L2.CX P w) 8 A.a_Meal___add__ A.d_Meal___add__ P_Meal___add__ (spAdd K 1 A.a_Meal A.a_Clash) := ok_add T 1
  obtain ⟨ocT, odT, kVT, docT, pmT, anT, cdT, ctT, oslT, eT, lkT, hcT⟩ := T.f__law_tried.ex
  have hbT := T.b__law_tried
  rw [eT] at lkT hbT
  obtain ⟨ocR, odR, kVR, docR, pmR, anR, cdR, ctR, oslR, eR, lkR, hcR⟩ := T.f__law_are_joined.ex
  have eF : A.d__law_are_joined = PySem.W.fnOf "_law_are_joined" "_law_are_joined" (defArgs s__law_are_joined) (defBody s__law_are_joined) (defScope s__law_are_joined) .none kW doc pm an (.ref cJ) ct := by
    have z := Option.some.inj (lk.symm.trans lkR)
    have z2 := congrArg Obj.data z
    injection z2 with z3
    exact z3.symm
  rw [eF]
  refine fn_of lk hcd sc__law_are_joined (fun vs H Q E h => ?_) (fun A' outer s H vs Q E hr h => ?_)
  · obtain ⟨st, c, p, pm, po, b, ms, ys, zs, lo, hi, lo2, hi2, ds, es, ko, rfl, _⟩ := h
    rfl
  · obtain ⟨st, c, p, pm, po, b, ms, ys, zs, lo, hi, lo2, hi2, ds, es, ko, rfl, B, hb, M, hpm, yp, hpo, hPo, zn, hB2, dis, nl, k⟩ := h
    obtain ⟨dsM, vM, bM⟩ := T.b2_M
    refine ⟨_, PSs.nox (pss_cons (ps_set (i := 4) sc__law_are_joined.nd rfl (Or.inl rfl) (pe_call G__law_some (hr.mono (by omega)) (by rfl) T.g__law_some T.f__law_some.kp T.b__law_some .nil pass0 (pa_cons (pv 0) (pa_cons (pv 2) pa_nil))))
 (pss_cons (ps_set (i := 5) sc__law_are_joined.nd rfl (Or.inr rfl) (pe_make T.mkM G_Meal___init__ (hr.mono (by omega)) (by rfl) T.g_Meal bM vM pass0 (pa_cons (pe_callTy (call_dictP rfl) (by rfl) T.dict (by decide +kernel) (pa_cons (pe_op op_cat (LiI.pe_listItems rfl (pv 3) (by rfl) T.list (by decide +kernel)) (pe_lc (own := [("_law_x", 7)]) (g := gName 7) (by rfl) sc__law_are_joined.nd (pi_list (pv 4)) (blkOk_by (N := N__law_are_joined) (sc := defScope s__law_are_joined) (by decide +kernel)) (fun _ _ _ _ _ => pg_name (i := 7) sc__law_are_joined.nd rfl (Or.inl rfl)) (fun _ _ _ _ _ => pts_nil) (fun _ _ _ _ _ => (pe_tup (pa_cons (pv 7) (pa_cons (pe_tup (pa_cons pe_int (pa_cons pe_int pa_nil))) pa_nil)))))) pa_nil)) pa_nil)))
 (pss_cons (ps_set (i := 6) sc__law_are_joined.nd rfl (Or.inl rfl) (pe_ifExp (pt_cmpR (op_eqD hr.units) (pv 4) (pe_lst pa_nil) (nomark _)) (pe_tup (pa_cons pe_str (pa_cons (pe_op (Own.op_like G_Meal___add__ T.oAdd.1 T.oAdd.2 T.sfM T.b_Meal___add__ passL (hr.mono (by omega))) (pv 1) (pv 5)) pa_nil))) (pe_tup (pa_cons pe_str (pa_cons (pe_ix ix_list (pe_call G__law_rising (hr.mono (by omega)) (by rfl) T.g__law_rising T.f__law_rising.kp T.b__law_rising .nil pass0 (pa_cons (pv 4) pa_nil)) pe_int (fun _ _ => rfl)) pa_nil)))))
 (pss_cons (ps_if (pt_not (pt_val (pe_call G__law_same (hr.mono (by omega)) (by rfl) T.g__law_same T.f__law_same.kp T.b__law_same .nil pass0 (pa_cons (LamX.pe_lamcall (k := 8) (T := T2 P1 P2) (by rfl) T.g__law_tried T.f__law_tried.kp lkT hcT hbT sc__law_tried rfl (Or.inl rfl) (tried_gives T) TBJ rfl (List.mem_cons_of_mem _ (List.mem_singleton.mpr rfl)) (uqJ nPP) (hr.mono (by omega)) (show LamX.LamS (defScope s__law_are_joined) _ from LamX.lamS_by (by decide +kernel)) rfl (fun _ _ _ _ _ => rfl) (fun A2 o2 s2 H2 E2 f2 c2 hr2 => pe_op (Own.op_like G_Meal___add__ T.oAdd.1 T.oAdd.2 T.sfM T.b_Meal___add__ (passes_call (takes_of rfl rfl rfl rfl) (fun _ _ _ _ h => h)) (hr2.mono (by omega))) (pv 1) (pv 5))) (pa_cons (pv 6) pa_nil)))))
 (pss_one (ps_ret pe_bl))
 pss_nil)
 (pss_cons (ps_set (i := 6) sc__law_are_joined.nd rfl (Or.inl rfl) (pe_ifExp (pt_cmpR (op_eqD hr.units) (pv 4) (pe_lst pa_nil) (nomark _)) (pe_tup (pa_cons pe_str (pa_cons (pe_op (Own.op_like G_Meal___add__ T.oAdd.1 T.oAdd.2 T.sfM T.b_Meal___add__ passL (hr.mono (by omega))) (pv 5) (pv 1)) pa_nil))) (pv 6)))
 (pss_one (ps_ret (pe_call G__law_same (hr.mono (by omega)) (by rfl) T.g__law_same T.f__law_same.kp T.b__law_same .nil pass0 (pa_cons (LamX.pe_lamcall (k := 8) (T := T2 P1 P2) (by rfl) T.g__law_tried T.f__law_tried.kp lkT hcT hbT sc__law_tried rfl (Or.inl rfl) (tried_gives T) TBJ rfl (List.mem_cons_of_mem _ (List.mem_singleton.mpr rfl)) (uqJ nPP) (hr.mono (by omega)) (show LamX.LamS (defScope s__law_are_joined) _ from LamX.lamS_by (by decide +kernel)) rfl (fun _ _ _ _ _ => rfl) (fun A2 o2 s2 H2 E2 f2 c2 hr2 => pe_op (Own.op_like G_Meal___add__ T.oAdd.1 T.oAdd.2 T.sfM T.b_Meal___add__ (passes_call (takes_of rfl rfl rfl rfl) (fun _ _ _ _ h => h)) (hr2.mono (by omega))) (pv 5) (pv 1))) (pa_cons (pv 6) pa_nil)))))))))), ?_⟩
    have yl : ms.length = ys.length := yp.length_eq.symm
    refine ⟨_, rfl, _, rfl, st, c, pm, ms, b, rfl, B.sta, hb, hpm, by omega, fun pq ss H1 hss g1 hq1 _ => ?_⟩
    have B1 := B.gs g1
    have sE := nE_gs g1
    have M1 := (M.up sE).up nE_same
    have hpo1 : H1 po = some (.dK ko) := nE_same _ _ (sE _ _ hpo)
    have hPo1 := (hPo.up sE).up nE_same
    have hq1 : H1 pq = some (.lst (ss.map V.str)) := (er_same _ _) _ _ hq1
    have sn : ss.Nodup := hss.nodup (yp.nodup_iff.mp M.nd)
    have sl : ss.length ≤ ys.length := by have := hss.length_le; omega
    have smem : ∀ n ∈ ss, n ∈ ys := fun n m => yp.mem_iff.mpr (hss.subset m)
    clear g1 M hpo hPo hpm B
    refine ⟨_, rfl, po, ko, rfl, hpo1, fun H2 il ts s2 nil1 nts nin hil hts => ?_⟩
    have hq2 := s2 _ _ hq1
    refine ⟨_, rfl, pq, rfl, ⟨_, SqL.of hq2⟩, fun D nD => ?_⟩
    refine lc_it (walk_list (K := K) (a := pq) (xs := ss.map V.str)) (fun j H' => ∃ (qs : List Addr) (kvs : List (Key × V)), H' D = some (.lst (qs.map V.ref)) ∧ Paired (fun p (kv : Key × V) => SqT K H' p [kV kv.1, kv.2]) qs kvs ∧ Pr2 K H' (ss.take j) (fun _ => .int 1) (fun _ => .int 3) kvs ∧ Same H2 H')
      ⟨[], [], upd_same, .nil, ⟨rfl, fun i x e => by cases e⟩, Same.new nD⟩ (fun j H' _ z => ?_) ?_ (fun H3 z => ?_)
    · obtain ⟨_, _, _, _, _, z⟩ := z
      exact SqL.of (z _ _ hq2)
    · rintro j x H' H'' hj ⟨qs, kvs, hD1, hQ, hK, s3⟩ ⟨rfl, hx⟩
      obtain ⟨hj1, rfl⟩ := str_at hx
      refine ⟨rfl, _, rfl, by show 2 ≤ sizeLine; decide, fun t1 nt1 => ⟨by show 2 ≤ sizeLine; decide, fun t nt => ?_⟩⟩
      have s4 := (Same.new nt1 (o := .tup [.int 1, .int 3])).trans (Same.new nt (o := .tup [.str ss[j], .ref t1]))
      have ht1 : upd (upd H'' t1 (.tup [.int 1, .int 3])) t (.tup [.str ss[j], .ref t1]) t1 = some (.tup [.int 1, .int 3]) := Same.new nt _ _ upd_same
      have ht : upd (upd H'' t1 (.tup [.int 1, .int 3])) t (.tup [.str ss[j], .ref t1]) t = some (.tup [.str ss[j], .ref t1]) := upd_same
      generalize upd (upd H'' t1 (.tup [.int 1, .int 3])) t (.tup [.str ss[j], .ref t1]) = H4 at s4 ht1 ht ⊢
      have hD4 := s4 _ _ hD1
      have e1 : ss.take (j + 1) = ss.take j ++ [ss[j]] := by rw [List.take_succ, List.getElem?_eq_getElem hj1]; rfl
      have ql : qs.length ≤ 30 := by
        rw [hQ.length, hK.len, List.length_take]; omega
      refine ⟨_, hD4, by rw [List.length_map]; exact Nat.lt_of_le_of_lt ql (by decide), qs ++ [t], kvs ++ [(.inr ss[j], .ref t1)], by rw [upd_same, List.map_append]; rfl, ?_, ?_, fun b u e => by rw [upd_ne (ne_of_none e nD)]; exact s4 _ _ (s3 _ _ e)⟩
      · exact paired_snoc (paired_imp (fun p (kv : Key × V) z => tupSet hD4 (noTup_lst _) (stUp z s4)) hQ) (tupSet hD4 (noTup_lst _) (SqT.of ht))
      · rw [e1]
        exact (Pr2.cat (hK.up s4) ⟨rfl, fun i x e => by
          cases i with
          | zero => cases e; exact ⟨t1, rfl, SqT.of ht1⟩
          | succ i => cases e⟩).set hD4 (noTup_lst _)
    obtain ⟨qs, kvs, hD3, hQ, hK, s3⟩ := z
    rw [List.length_map, List.take_length] at hK
    have ql : qs.length = ss.length := by rw [hQ.length, hK.len]
    have tl : ts.length = zs.length := by rw [hts.length, hPo1.len]
    refine ⟨_, _, _, _, rfl, rfl, s3 _ _ hil, hD3, by rw [List.length_map, List.length_map]; exact small (by omega), fun L nL => ?_⟩
    have s4 := Same.new nL (o := .lst (ts.map V.ref ++ qs.map V.ref))
    have hL : upd H3 L (.lst (ts.map V.ref ++ qs.map V.ref)) L = some (.lst ((ts ++ qs).map V.ref)) := by rw [upd_same, List.map_append]
    generalize upd H3 L (.lst (ts.map V.ref ++ qs.map V.ref)) = H4 at s4 hL ⊢
    refine ⟨L, ts ++ qs, ko ++ kvs, rfl, SqL.of hL, paired_app (paired_imp (fun t (kv : Key × V) z => SqT.of (s4 _ _ (s3 _ _ z))) hts) (paired_imp (fun p (kv : Key × V) z => stUp z s4) hQ), fun pe npe => ?_⟩
    have mf : ∀ n ∈ zs, n ∉ ss := fun n m q => dis n (smem n q) m
    have nN : (zs ++ ss).Nodup := List.nodup_append.mpr ⟨zn, sn, fun x hx y hy e => mf x hx (by rw [e]; exact hy)⟩
    rw [merge_all _ [] (by rw [List.nil_append, List.map_append, hPo1.keys, hK.keys, ← List.map_append]; exact inr_nd nN), List.nil_append]
    have s5 := Same.new npe (o := .dK (ko ++ kvs))
    have he : upd H4 pe (.dK (ko ++ kvs)) pe = some (.dK (ko ++ kvs)) := upd_same
    have S5 : Same H1 (upd H4 pe (.dK (ko ++ kvs))) := Same.trans s2 (Same.trans s3 (Same.trans s4 s5))
    have P5 : Pr2 K (upd H4 pe (.dK (ko ++ kvs))) (zs ++ ss) (fun n => .int (mx ss lo2 (fun _ => 1) n)) (fun n => .int (mx ss hi2 (fun _ => 3) n)) (ko ++ kvs) := by
      refine Pr2.cat ((hPo1.up S5).congr fun n m => ?_) ((hK.up (s4.trans s5)).congr fun n m => ?_)
      · unfold mx; rw [if_neg (mf n m), if_neg (mf n m)]; exact ⟨rfl, rfl⟩
      · unfold mx; rw [if_pos m, if_pos m]; exact ⟨rfl, rfl⟩
    have hB5 : ∀ n ∈ zs ++ ss, (Nm n ∧ PyData.strOk n = true) ∧ 1 ≤ mx ss lo2 (fun _ => 1) n ∧ mx ss lo2 (fun _ => 1) n ≤ mx ss hi2 (fun _ => 3) n := fun n m => by
      rcases List.mem_append.mp m with m | m
      · unfold mx; rw [if_neg (mf n m), if_neg (mf n m)]; exact hB2 n m
      · unfold mx; rw [if_pos m, if_pos m]; exact ⟨(M1.nm n (smem n m)).1, (by decide : (1 : Int) ≤ 1), (by decide : (1 : Int) ≤ 3)⟩
    generalize upd H4 pe (.dK (ko ++ kvs)) = H5 at he S5 P5 ⊢
    have nul : Same (fun _ => none : Hp) H5 := fun _ _ z => nomatch z
    refine mk_meal he P5.x nN hB5 (by rw [List.length_append]; omega) (.inr (stUp T.e0W nul)) .nil rfl (Nat.zero_le _) (fun _ m => nomatch m) (.inr (stUp T.e0 nul)) .nil rfl (Nat.zero_le _) (fun _ m => nomatch m) (fun q H6 xs nq s6 MN xp xsr => ?_)
    have xm : ∀ n, n ∈ xs ↔ n ∈ zs ++ ss := fun n => xp.mem_iff
    have xl : xs.length = zs.length + ss.length := by rw [xp.length_eq, List.length_append]
    have N6 : MlIn K A.a_Meal H6 q xs (mx ss lo2 (fun _ => 1)) (mx ss hi2 (fun _ => 3)) [] [] := ⟨MN _ KeepM.refl, xp.nodup_iff.mpr nN, fun n m => hB5 n ((xm n).mp m), by omega, xsr, (fun _ m => nomatch m), Nat.zero_le _, (fun _ m => nomatch m), Nat.zero_le _⟩
    have S6 := S5.trans s6
    have M6 := M1.up S6
    have hq6 := S6 _ _ hq1
    have B6 := B1.same S6
    have sE6 := sE.trans (nE_mono S6)
    clear MN s6 he P5 S5 s5 hL s4 hD3 hQ hK s3 hil hts nil1 nts nin s2 hq1 hq2 hpo1 hPo1 M1 B1 sE npe nL nD nq nul
    obtain ⟨dx, _, _, _, _, _, _, hp6, _⟩ := id M6.m.ex
    obtain ⟨dy, _, _, _, _, _, _, hn6, _⟩ := id N6.m.ex
    have sok : ∀ n ∈ ss, PyData.strOk n = true := fun n m => (M6.nm n (smem n m)).1.2
    have l1 : ys.length + xs.length ≤ 30 := by omega
    have l2 : xs.length + ys.length ≤ 30 := by omega
    have l3 : ds.length + ([] : List PyData).length ≤ 30 := M6.dl
    have l4 : es.length + ([] : List PyData).length ≤ 30 := M6.el
    have l5 : ([] : List PyData).length + ds.length ≤ 30 := by rw [List.length_nil, Nat.zero_add]; exact M6.dl
    have l6 : ([] : List PyData).length + es.length ≤ 30 := by rw [List.length_nil, Nat.zero_add]; exact M6.el
    refine ⟨_, rfl, Nat.zero_le _, fun e ne => ⟨.list (ss.map PyData.str), .list [], .lst (SqL.of (Same.new ne _ _ hq6)) (dpStrs ss), .lst (SqL.of upd_same) .nil, strs_shaped sok, by decide +kernel, _, rfl, ?_⟩⟩
    rw [eqv_strs_nil]
    have s7 := Same.new ne (o := .lst [])
    have M7 := M6.up s7
    have N7 := N6.up s7
    have hq7 := s7 _ _ hq6
    have B7 := B6.same s7
    have hp7 := s7 _ _ hp6
    have hn7 := s7 _ _ hn6
    have sE7 := sE6.trans (nE_mono s7)
    generalize upd H6 e (.lst []) = H7 at M7 N7 hq7 B7 hp7 hn7 sE7 ⊢
    clear M6 N6 hq6 B6 hp6 hn6 sE6 s7 ne S6
    refine ite2 (fun cs => ?_) (fun cs => ?_)
    · have cs : ss = [] := by cases ss with
        | nil => rfl
        | cons x r => cases cs
      subst cs
      have d1 : ∀ x ∈ ys, x ∉ xs := fun x m q => dis x m (by have := (xm x).mp q; rwa [List.append_nil] at this)
      have d2 : ∀ x ∈ xs, x ∉ ys := fun x m q => d1 x q m
      refine ⟨_, rfl, _, rfl, p, dx, _, rfl, hp7, ⟨q, dy, _, rfl, hn7⟩, p, q, ys, xs, lo, hi, _, _, ds, es, [], [], rfl, M7, N7, l1, l3, l4, .inl ⟨d1, fun p3 x3 H8 s8 M3 e3 => ⟨_, rfl, by show 2 ≤ sizeLine; decide, fun t nt => ?_⟩⟩⟩
      have s9 := Same.new nt (o := .tup [.str "told", .ref p3])
      have ht9 : upd H8 t (.tup [.str "told", .ref p3]) t = some (.tup [.str "told", .ref p3]) := upd_same
      have M9 := M3.up s9
      have S9 := s8.trans s9
      generalize upd H8 t (.tup [.str "told", .ref p3]) = H9 at S9 ht9 M9 ⊢
      have B9 := B7.same S9
      refine ⟨B9.tab, fun G1 eN T1 => ?_⟩
      have E1 := (LamX.ExtN.of S9).trans eN
      have MA := M7.ext E1
      have NA := N7.ext E1
      refine ⟨_, rfl, _, rfl, p, dx, _, rfl, E1 _ _ hp7 (fun _ z => nomatch z), ⟨q, dy, _, rfl, E1 _ _ hn7 (fun _ z => nomatch z)⟩, p, q, ys, xs, lo, hi, _, _, ds, es, [], [], rfl, MA, NA, l1, l3, l4, .inl ⟨d1, fun p4 x4 G2 s2 M4 e4 => ⟨_, rfl, by show 2 ≤ sizeLine; decide, fun t4 nt4 => ⟨_, rfl, ?_⟩⟩⟩⟩
      obtain rfl : x4 = x3 := asc_eq (e4.trans e3.symm) M4.srt (sle_sorted M3.srt)
      have s3 := s2.trans (Same.new nt4 (o := .tup [.str "told", .ref p4]))
      have e3' := eN.trans (LamX.ExtN.of s3)
      have E3 := E1.trans (LamX.ExtN.of s3)
      refine ⟨_, rfl, t4, t, .ref p4, .ref p3, "told", rfl, upd_same, e3' _ _ ht9 (fun _ z => nomatch z), .inr ⟨p4, p3, x4, _, _, _, _, rfl, rfl, M4.up (Same.new nt4), M9.ext e3'⟩, fun G3 s4 => ⟨_, rfl, iteF ?_⟩⟩
      have E4 := E3.trans (LamX.ExtN.of s4)
      have T3 := (T1.ext s3).ext s4
      have M10 := M7.ext E4
      have N10 := N7.ext E4
      have B10 := B7.ext E4 T3
      have sE10 := sE7.trans (nE_ext E4)
      have hq10 := E4 _ _ hq7 (fun _ z => nomatch z)
      have hp10 := E4 _ _ hp7 (fun _ z => nomatch z)
      have hn10 := E4 _ _ hn7 (fun _ z => nomatch z)
      clear M9 S9 ht9 B9 MA NA E1 eN T1 s2 s3 e3' E3 s4 E4 T3 M3 M4 e3 e4 nt nt4 M7 N7 B7 sE7 hq7 hp7 hn7 s8 s9
      refine ⟨_, rfl, Nat.zero_le _, fun e ne => ⟨.list (([] : List Str).map PyData.str), .list [], .lst (SqL.of (Same.new ne _ _ hq10)) (dpStrs []), .lst (SqL.of upd_same) .nil, strs_shaped sok, by decide +kernel, _, rfl, ?_⟩⟩
      rw [eqv_strs_nil]
      have s11 := Same.new ne (o := .lst [])
      have hp11 := s11 _ _ hp10
      have hn11 := s11 _ _ hn10
      have M11 := M10.up s11
      have N11 := N10.up s11
      have B11 := B10.same s11
      have sE11 := sE10.trans (nE_mono s11)
      generalize upd G3 e (.lst []) = H11 at hp11 hn11 M11 N11 B11 sE11 ⊢
      refine iteT ?_
      refine ⟨_, rfl, _, rfl, q, dy, _, rfl, hn11, ⟨p, dx, _, rfl, hp11⟩, q, p, xs, ys, _, _, lo, hi, [], [], ds, es, rfl, N11, M11, l2, l5, l6, .inl ⟨d2, fun p3 x3 H8 s8 M3 e3 => ⟨_, rfl, by show 2 ≤ sizeLine; decide, fun t nt => ?_⟩⟩⟩
      have s9 := Same.new nt (o := .tup [.str "told", .ref p3])
      have ht9 : upd H8 t (.tup [.str "told", .ref p3]) t = some (.tup [.str "told", .ref p3]) := upd_same
      have M9 := M3.up s9
      have S9 := s8.trans s9
      generalize upd H8 t (.tup [.str "told", .ref p3]) = H9 at S9 ht9 M9 ⊢
      have B9 := B11.same S9
      refine ⟨B9.tab, fun G1 eN T1 => ?_⟩
      have E1 := (LamX.ExtN.of S9).trans eN
      have MA := M11.ext E1
      have NA := N11.ext E1
      refine ⟨_, rfl, _, rfl, q, dy, _, rfl, E1 _ _ hn11 (fun _ z => nomatch z), ⟨p, dx, _, rfl, E1 _ _ hp11 (fun _ z => nomatch z)⟩, q, p, xs, ys, _, _, lo, hi, [], [], ds, es, rfl, NA, MA, l2, l5, l6, .inl ⟨d2, fun p4 x4 G2 s2 M4 e4 => ⟨_, rfl, by show 2 ≤ sizeLine; decide, fun t4 nt4 => ⟨_, rfl, ?_⟩⟩⟩⟩
      obtain rfl : x4 = x3 := asc_eq (e4.trans e3.symm) M4.srt (sle_sorted M3.srt)
      have s3 := s2.trans (Same.new nt4 (o := .tup [.str "told", .ref p4]))
      have e3' := eN.trans (LamX.ExtN.of s3)
      have E3 := E1.trans (LamX.ExtN.of s3)
      refine ⟨_, rfl, t4, t, .ref p4, .ref p3, "told", rfl, upd_same, e3' _ _ ht9 (fun _ z => nomatch z), .inr ⟨p4, p3, x4, _, _, _, _, rfl, rfl, M4.up (Same.new nt4), M9.ext e3'⟩, fun G4 s4 => ?_⟩
      have E4 := E3.trans (LamX.ExtN.of s4)
      exact k _ (sE11.trans (nE_ext E4)) (B11.ext E4 ((T1.ext s3).ext s4))
    · refine ⟨_, rfl, pq, ss, rfl, .inl (SqL.of hq7), by omega, fun r rs H8 rp rsr nr s8 hr8 => ?_⟩
      obtain ⟨x, rt, rfl⟩ : ∃ x rt, rs = x :: rt := by
        cases rs with
        | nil =>
          have := rp.length_eq
          cases ss with
          | nil => exact absurd rfl cs
          | cons y r => cases this
        | cons x rt => exact ⟨x, rt, rfl⟩
      have f1 : ys.find? (fun n => decide (n ∈ xs)) = some x := find_min M7.srt M7.nd rp rsr sn fun n => by
        rw [decide_eq_true_eq, xm n, List.mem_append]
        exact ⟨fun ⟨a, b⟩ => b.resolve_left (dis n a), fun m => ⟨smem n m, .inr m⟩⟩
      have f2 : xs.find? (fun n => decide (n ∈ ys)) = some x := find_min N7.srt N7.nd rp rsr sn fun n => by
        rw [decide_eq_true_eq, xm n, List.mem_append]
        exact ⟨fun ⟨a, b⟩ => a.resolve_left (dis n b), fun m => ⟨.inr m, smem n m⟩⟩
      refine ⟨r, _, 0, .str x, rfl, rfl, SqL.of hr8, atI0 _ _, by show 2 ≤ sizeLine; decide, fun t nt => ?_⟩
      have s9 := Same.new nt (o := .tup [.str "clash", .str x])
      have ht9 : upd H8 t (.tup [.str "clash", .str x]) t = some (.tup [.str "clash", .str x]) := upd_same
      have S9 := s8.trans s9
      generalize upd H8 t (.tup [.str "clash", .str x]) = H9 at S9 ht9 ⊢
      have B9 := B7.same S9
      refine ⟨B9.tab, fun G1 eN T1 => ?_⟩
      have E1 := (LamX.ExtN.of S9).trans eN
      have MA := M7.ext E1
      have NA := N7.ext E1
      refine ⟨_, rfl, _, rfl, p, dx, _, rfl, E1 _ _ hp7 (fun _ z => nomatch z), ⟨q, dy, _, rfl, E1 _ _ hn7 (fun _ z => nomatch z)⟩, p, q, ys, xs, lo, hi, _, _, ds, es, [], [], rfl, MA, NA, l1, l3, l4, .inr ⟨x, f1, Nat.one_pos, fun y dd G2 s2 hdd sd => .inr ⟨rfl, dd, y, rfl, hdd, fun t4 nt4 => ?_⟩⟩⟩
      have s3 := s2.trans (Same.new nt4 (o := .tup [.str "clash", y]))
      have e3' := eN.trans (LamX.ExtN.of s3)
      have E3 := E1.trans (LamX.ExtN.of s3)
      refine ⟨_, rfl, t4, t, y, .str x, "clash", rfl, upd_same, e3' _ _ ht9 (fun _ z => nomatch z), .inl (sd_symm (sd_up sd (Same.new nt4))), fun G3 s4 => ⟨_, rfl, iteF ?_⟩⟩
      have E4 := E3.trans (LamX.ExtN.of s4)
      have T3 := (T1.ext s3).ext s4
      have M10 := M7.ext E4
      have N10 := N7.ext E4
      have B10 := B7.ext E4 T3
      have sE10 := sE7.trans (nE_ext E4)
      have hq10 := E4 _ _ hq7 (fun _ z => nomatch z)
      have hp10 := E4 _ _ hp7 (fun _ z => nomatch z)
      have hn10 := E4 _ _ hn7 (fun _ z => nomatch z)
      have ht10 := (e3'.trans (LamX.ExtN.of s4)) _ _ ht9 (fun _ z => nomatch z)
      clear S9 ht9 B9 MA NA E1 eN T1 s2 s3 e3' E3 s4 E4 T3 nt nt4 M7 N7 B7 sE7 hq7 hp7 hn7 s8 s9 sd hdd
      refine ⟨_, rfl, Nat.zero_le _, fun e ne => ⟨.list (ss.map PyData.str), .list [], .lst (SqL.of (Same.new ne _ _ hq10)) (dpStrs ss), .lst (SqL.of upd_same) .nil, strs_shaped sok, by decide +kernel, _, rfl, ?_⟩⟩
      rw [eqv_strs_nil]
      have s11 := Same.new ne (o := .lst [])
      have hp11 := s11 _ _ hp10
      have hn11 := s11 _ _ hn10
      have ht11 := s11 _ _ ht10
      have M11 := M10.up s11
      have N11 := N10.up s11
      have B11 := B10.same s11
      have sE11 := sE10.trans (nE_mono s11)
      generalize upd G3 e (.lst []) = H11 at hp11 hn11 ht11 M11 N11 B11 sE11 ⊢
      refine ite2 (fun z => absurd z cs) (fun _ => ?_)
      refine ⟨_, rfl, B11.tab, fun G1 eN T1 => ?_⟩
      have MA := M11.ext eN
      have NA := N11.ext eN
      refine ⟨_, rfl, _, rfl, q, dy, _, rfl, eN _ _ hn11 (fun _ z => nomatch z), ⟨p, dx, _, rfl, eN _ _ hp11 (fun _ z => nomatch z)⟩, q, p, xs, ys, _, _, lo, hi, [], [], ds, es, rfl, NA, MA, l2, l5, l6, .inr ⟨x, f2, Nat.one_pos, fun y dd G2 s2 hdd sd => .inr ⟨rfl, dd, y, rfl, hdd, fun t4 nt4 => ?_⟩⟩⟩
      have s3 := s2.trans (Same.new nt4 (o := .tup [.str "clash", y]))
      have E3 := eN.trans (LamX.ExtN.of s3)
      refine ⟨_, rfl, t4, t, y, .str x, "clash", rfl, upd_same, E3 _ _ ht11 (fun _ z => nomatch z), .inl (sd_symm (sd_up sd (Same.new nt4))), fun G4 s4 => ?_⟩
      have E4 := E3.trans (LamX.ExtN.of s4)
      exact k _ (sE11.trans (nE_ext E4)) (B11.ext E4 ((T1.ext s3).ext s4))
end
end K5
set_option Elab.async false
set_option linter.all false
set_option maxRecDepth 100000
set_option maxHeartbeats 4000000
namespace K5
open PySem L2
local macro_rules | `(tactic| walk_at "rd1") => `(tactic| first
  | refine ⟨_, _, rfl, rfl, ?_⟩
  | refine ⟨_, _, _, _, rfl, rfl, SqL.of (by assumption), rfl, ?_⟩
  | refine ⟨_, _, _, _, rfl, rfl, (by assumption), rfl, ?_⟩
  | refine .inl ⟨_, rfl, ?_⟩
  | refine ⟨_, rfl, ?_⟩
  | refine ⟨(by unfold CMul; omega), ?_⟩
  | refine ⟨(by unfold CPow; omega), ?_⟩
  | refine ⟨(by (try dsimp only); omega), ?_⟩
  | refine ⟨(by unfold CDiv; omega), ?_⟩
  | fail "rd1")
local macro_rules | `(tactic| walk_at "rd") => `(tactic| repeat' (walk_at "rd1"))
section
variable {P : Program} {w : World} {K : PySem.W.Frag} {mg : Str → Option Value} {base : Heap} {A : Ad}

open Own
/-- a list is told anew -/
def spLooseL (K : PySem.W.Frag) (n : Nat) : Sp := fun vs H Q _ => ∃ (st c t : Addr) (xs : List V) (ds : List PyData) (b : Int), vs = [.ref st, .ref t] ∧ Sta H st c b ∧ b + ((costAll ds : Int) + 1) ≤ 1000000 ∧ SqL K (er H st) t xs ∧ DpAll K (er H st) xs ds ∧ (ds.length ≤ 64 ∧ tqAll ds = true) ∧ PyData.depthAll ds < n ∧
  ∀ r d' L H', Gs st c H H' (b + ((costAll ds : Int) + 1)) → Lz (er H' st) r d' L → strip d' = .tuple ds → (∀ a ∈ L, er H st a = none) → Q r H'
theorem ok_looseL (T : Txt K mg A) (n : Nat) : FnOk P w K mg base CX0 (n + 2) A.a__law_loose A.d__law_loose P__law_loose (spLooseL K n) := by
  have G__law_loose : FnOk P w K mg base CX0 (n + 1) A.a__law_loose A.d__law_loose P__law_loose (spLoose K n) := ok_loose T n
  have G__law_take : FnOk P w K mg base CX0 1 A.a__law_take A.d__law_take P__law_take spTake := ok_take T
  refine T.f__law_loose.ok sc__law_loose (fun vs H Q E h => ?_) (fun cdv A' outer s H vs Q E hr h => ?_)
  · obtain ⟨st, c, t, xs, ds, b, rfl, _⟩ := h
    rfl
  · obtain ⟨st, c, t, xs, ds, b, rfl, S, hb, ha, hA, ht, hd, k⟩ := h
    refine ⟨_, (pss_cons (ps_if (pt_val (pe_callB call_isiT (by rfl) T.isinstance (by decide +kernel) (pa_cons (pv 1) (pa_cons (pe_tup (pa_cons (pe_bltn (v := .ty "list") (u := .type "list") (by rfl) T.list (by decide +kernel) rfl) (pa_cons (pe_bltn (v := .ty "tuple") (u := .type "tuple") (by rfl) T.tuple (by decide +kernel) rfl) pa_nil))) pa_nil))))
 (pss_cons (ps_setLc (i := 2) (own := [("_law_x", 3)]) (g := gName 3)  (by rfl) sc__law_loose.nd rfl rfl (sw_true rfl rfl rfl (by decide +kernel)) (EnT.pi_or (pi_list (pv 1)) (pi_tup (pv 1))) (blkOk_by (N := N__law_loose) (sc := defScope s__law_loose) (by decide +kernel)) (fun _ _ _ _ _ => pg_name (i := 3) sc__law_loose.nd rfl (Or.inl rfl)) (fun _ _ _ _ _ => pts_nil) (fun _ _ _ _ _ => (pe_call G__law_loose (hr.mono (by omega)) (by rfl) T.g__law_loose T.f__law_loose.kp T.b__law_loose .nil pass0 (pa_cons (pv 0) (pa_cons (pv 3) pa_nil)))))
 (pss_one (ps_ret (pe_ifExp (pt_cmpR op_eq (pe_call G__law_take (hr.mono (by omega)) (by rfl) T.g__law_take T.f__law_take.kp T.b__law_take .nil pass0 (pa_cons (pv 0) (pa_cons pe_int pa_nil))) pe_int (nomark _)) (pv 2) (pe_callTy call_tuple_of (by rfl) T.tuple (by decide +kernel) (pa_cons (pv 2) pa_nil))))))
 pss_nil)
 (pss_one (ps_ret (pv 1)))), ?_⟩
    refine ⟨_, rfl, by show 2 ≤ sizeLine; decide, fun p hp => ?_⟩
    have hl : xs.length = ds.length := dpLen hA
    have t0 : SqL K H t xs := sqUp ha (er_same _ _)
    have s1 : Same H (upd H p (.tup [.ty "list", .ty "tuple"])) := Same.new hp
    have hpt : upd H p (.tup [.ty "list", .ty "tuple"]) p = some (.tup [.ty "list", .ty "tuple"]) := upd_same
    have g1 := Gs.of_same S s1
    generalize upd H p (.tup [.ty "list", .ty "tuple"]) = H1 at s1 hpt g1 ⊢
    refine ⟨_, p, _, _, _, true, rfl, hpt, .cons (.ty _) (.cons (.ty _) .nil), tyL (sqUp t0 s1), kit2 (a := "list") (b := "list") (c := "tuple") (r := true) (s := false) (by decide +kernel) (by decide +kernel), _, rfl, iteT ?_⟩
    have A1 : DpAll K (er H1 st) xs ds := dpAllSame g1.same hA
    refine seq_or (H0 := er H1 st) (.inl (sqUp ha g1.same)) (er_same _ _) rfl fun J Gd wk hG => fun D hD => ?_
    have mD := g1.sta.ne hD
    have eD := er_none (st := st) hD
    refine lc_it wk (fun i H' => ∃ (acc : List V) (es : List PyData) (L : List Addr), er H' st D = some (.lst acc) ∧ LzAll (er (er H' st) D) acc es L ∧ stripAll es = ds.take i ∧ (∀ a ∈ L, er H st a = none) ∧ Gs st c H1 H' (b + (costAll (ds.take i) : Int)))
      ⟨[], [], [], er_of mD upd_same, .nil, rfl, (fun a m => by cases m), by simpa [costAll] using (Gs.refl g1.sta).new hD⟩ (fun i H' _ z => ?_) ?_ (fun H2 z => ?_)
    · obtain ⟨_, _, _, _, _, _, _, g⟩ := z
      exact hG _ (g.same.trans (er_same _ _))
    · rintro i x H' H'' hi ⟨acc, es, L, hD1, hZ, hS, hL, g⟩ ⟨rfl, hx⟩
      obtain ⟨d, hd1, hd2⟩ := dpGet A1 hx
      have hi2 : i < ds.length := (List.getElem?_eq_some_iff.mp hd1).1
      have ct := cost_take hd1
      have cl := cost_le ds (i + 1)
      have dd : d.depth < n := by
        have q := PyData.depth_le_depthAll ds d (List.mem_of_getElem? hd1)
        omega
      refine ⟨rfl, _, rfl, _, rfl, st, c, x, d, _, rfl, g.sta, by omega, dpSame g.same hd2, tqAll_mem ht.2 d (List.mem_of_getElem? hd1), dd, fun r d' L1 H2 g2 Z1 S1 F1 => ?_⟩
      have hD2 := g2.same _ _ hD1
      have Z := lzAllUp hZ (er_mono g2.same)
      have nD : D ∉ L1 := fun m => by rw [F1 _ m] at hD1; cases hD1
      have Z1 : Lz (er (er H2 st) D) r d' L1 := lzKeep Z1 fun b u e q => er_of (fun z => by
        rcases q with m | ⟨ys, rfl⟩
        · exact nD (by rw [← z]; exact m)
        · rw [z, hD2] at e; cases e) e
      have old : ∀ a ∈ L, a ∉ L1 := fun a m m1 => by
        obtain ⟨ys, e⟩ := lzAllAt hZ a m
        have e2 := (er_some e).2
        rw [F1 a m1] at e2; cases e2
      have al : acc.length ≤ 64 := by
        have q := lzLen hZ
        have q2 := congrArg List.length hS
        rw [stripAll_map, List.length_map, List.length_take] at q2
        omega
      refine ⟨acc, (er_same _ _) _ _ hD2, Nat.lt_of_le_of_lt al (by decide), acc ++ [r], es ++ [d'], L ++ L1, ?_, ?_, ?_, fun a m => ?_, ?_⟩
      · rw [er_updp mD, upd_same]
      · rw [er_updp mD, er_upd]
        exact lzSnoc Z1 Z old
      · rw [stripAll_map, List.map_append, ← stripAll_map, hS, List.take_succ, hd1, List.map_cons, List.map_nil, S1]; rfl
      · rcases List.mem_append.mp m with m | m
        · exact hL a m
        · exact (g1.same.trans g.same).free (F1 a m)
      · exact ((g.trans g2).set g1.sta.hc eD mD).le (by omega) (by omega)
    · obtain ⟨acc, es, L, hD1, hZ, hS, hL, g⟩ := z
      rw [hl, List.take_length] at hS g
      have nDL : D ∉ L := fun m => by
        obtain ⟨ys, e⟩ := lzAllAt hZ D m
        exact (er_some e).1 rfl
      have fD : er H st D = none := g1.same.free eD
      have lE : es.length ≤ 64 := by
        have q2 := congrArg List.length hS
        rw [stripAll_map, List.length_map] at q2
        omega
      have sS : strip (.list es) = .tuple ds ∧ strip (.tuple es) = .tuple ds := by simp [strip, hS]
      refine ⟨_, rfl, st, c, 2, _, rfl, g.sta, by omega, by omega, by omega, fun r o hr0 hr1 S3 => ?_⟩
      have g3 := g1.trans (g.trans (Gs.of_upd S3))
      rw [← er_upd H2 st o] at hD1 hZ
      generalize upd H2 st o = H3 at S3 g3 hD1 hZ ⊢
      have hZ3 : LzAll (er H3 st) acc es L := lzAllUp hZ (er_same _ _)
      refine ⟨rfl, _, rfl, ite2 (fun q => ?_) (fun q => ?_)⟩
      · exact ⟨_, rfl, k _ (.list es) (D :: L) H3 (g3.le (by omega) (by omega)) (.lst hD1 hZ3 nDL lE) sS.1 fun a m => (List.mem_cons.mp m).elim (fun e => by rw [e]; exact fD) (hL a)⟩
      · refine ⟨_, rfl, D, _, rfl, .inl ⟨SqL.of ((er_same _ _) _ _ hD1), fun l nl => ?_⟩⟩
        have ml := S3.ne nl
        exact k _ (.tuple es) L _ ((g3.new nl).le (by omega) (by omega)) (.tup (er_of ml upd_same) (lzAllUp hZ3 (er_mono (Same.new nl))) lE) sS.2 hL

end
end K5
set_option Elab.async false
set_option linter.all false
set_option maxRecDepth 100000
set_option maxHeartbeats 4000000
namespace K5
open PySem L2
local macro_rules | `(tactic| walk_at "rd1") => `(tactic| first
  | refine ⟨_, _, rfl, rfl, ?_⟩
  | refine ⟨_, _, _, _, rfl, rfl, SqL.of (by assumption), rfl, ?_⟩
  | refine ⟨_, _, _, _, rfl, rfl, (by assumption), rfl, ?_⟩
  | refine .inl ⟨_, rfl, ?_⟩
  | refine ⟨_, rfl, ?_⟩
  | refine ⟨(by unfold CMul; omega), ?_⟩
  | refine ⟨(by unfold CPow; omega), ?_⟩
  | refine ⟨(by (try dsimp only); omega), ?_⟩
  | refine ⟨(by unfold CDiv; omega), ?_⟩
  | fail "rd1")
local macro_rules | `(tactic| walk_at "rd") => `(tactic| repeat' (walk_at "rd1"))
section
variable {P : Program} {w : World} {K : PySem.W.Frag} {mg : Str → Option Value} {base : Heap} {A : Ad}

open Own
theorem cost_w {ns : List Str} {d : PyData} (h : WshN ns d) : cost d ≤ 3 := by
  have mc : ∀ {e : PyData}, MomN ns e → cost e ≤ 1 := fun q => by
    cases q <;> simp [cost, costAll]
  cases h with
  | mk ha hb =>
    have a := mc ha
    have b := mc hb
    simp only [cost, costAll]
    omega

theorem costAll_w {ns : List Str} : ∀ {ds : List PyData}, (∀ d ∈ ds, WshN ns d) → costAll ds ≤ 3 * ds.length
  | [], _ => by simp [costAll]
  | d :: ds, h => by
    have a := cost_w (h d (List.mem_cons_self ..))
    have b := costAll_w fun e m => h e (List.mem_cons_of_mem _ m)
    simp only [costAll, List.length_cons]
    omega
theorem cutTs {ns : List Str} {r : Int} (h0 : 0 ≤ r) (h1 : r ≤ ns.length) : cutV (ns.map V.str) none (some r) = (ns.take r.toNat).map V.str := by
  have e2 : r = ((r.toNat : Nat) : Int) := by omega
  unfold cutV
  rw [e2, HT.sIx_none, HT.sIx_nat, List.drop_zero, Nat.sub_zero, List.map_take, List.length_map, Int.toNat_natCast, Nat.min_eq_left (by omega)]
theorem cutMs {ns : List Str} {r : Int} (h0 : 0 ≤ r) (h1 : 3 + r ≤ ns.length) : cutV (ns.map V.str) (some 3) (some (3 + r)) = ((ns.drop 3).take r.toNat).map V.str := by
  have e2 : 3 + r = (((3 + r.toNat : Nat)) : Int) := by omega
  have e3 : (3 : Int) = ((3 : Nat) : Int) := rfl
  unfold cutV
  rw [e2]
  conv => lhs; rw [e3]
  rw [HT.sIx_nat, HT.sIx_nat, List.length_map, Nat.min_eq_left (show 3 ≤ ns.length by omega), Nat.min_eq_left (show 3 + r.toNat ≤ ns.length by omega), Nat.add_sub_cancel_left, List.map_take, List.map_drop]
theorem keep_er {H H' : Hp} {st c : Addr} {b : Int} (S : Sta H' st c b) : KeepM H H' (er H' st) := fun x u e nl _ => er_of (fun z => by
  obtain ⟨cs, i, l, m, n, h, _⟩ := S.ex
  rw [z, h] at e
  exact nl _ (Option.some.inj e).symm) e
theorem lz_seq {H : Hp} {v : V} {d : PyData} {L : List Addr} {es : List PyData} (Z : Lz H v d L) (h : strip d = .tuple es) : ∃ (a : Addr) (xs : List V) (ds : List PyData), v = .ref a ∧ SqX K H a xs ∧ DpAll K H xs ds ∧ stripAll ds = es := by
  cases Z with
  | str s => simp [strip] at h
  | int i => simp [strip] at h
  | lst e hA _ _ =>
    simp only [strip, PyData.tuple.injEq] at h
    exact ⟨_, _, _, rfl, .inl (SqL.of e), lzAllDp hA, h⟩
  | tup e hA _ =>
    simp only [strip, PyData.tuple.injEq] at h
    exact ⟨_, _, _, rfl, .inr (SqT.of e), lzAllDp hA, h⟩
theorem odd_ok {H : Hp} {l t d : Addr} {n : Nat} (hl : H l = some (.lst [])) (ht : H t = some (.tup [.int 0])) (hd : H d = some (.dK [])) {x : V} (hx : x ∈ [V.int (-1), .int (n : Int), .non, .str "0", .bl true, .ref l, .ref t, .ref d]) : Cpre K 2 H H x ∧ NoIx K H n x := by
  simp only [List.mem_cons, List.not_mem_nil, or_false] at hx
  rcases hx with e | e | e | e | e | e | e | e <;> subst e
  · exact ⟨⟨Same.refl _, .inl ⟨.int (-1), .int _, by simp [PyData.depth], rfl⟩⟩, .inl ⟨_, rfl, .inl (by decide)⟩⟩
  · exact ⟨⟨Same.refl _, .inl ⟨.int n, .int _, by simp [PyData.depth], rfl⟩⟩, .inl ⟨_, rfl, .inr (Int.le_refl _)⟩⟩
  · exact ⟨⟨Same.refl _, .inl ⟨.none, .non, by simp [PyData.depth], rfl⟩⟩, .inr ⟨"NoneType", .base .non, .inr (by decide +kernel)⟩⟩
  · exact ⟨⟨Same.refl _, .inl ⟨.str "0", .str _, by simp [PyData.depth], rfl⟩⟩, .inr ⟨"str", .base (.str _), .inr (by decide +kernel)⟩⟩
  · exact ⟨⟨Same.refl _, .inl ⟨.bool true, .bl true, by simp [PyData.depth], rfl⟩⟩, .inr ⟨"bool", .base (.bl _), .inl rfl⟩⟩
  · exact ⟨⟨Same.refl _, .inl ⟨.list [], .lst (SqL.of hl) .nil, by simp [PyData.depth, PyData.depthAll], rfl⟩⟩, .inr ⟨"list", .base (.lst hl), .inr (by decide +kernel)⟩⟩
  · exact ⟨⟨Same.refl _, .inl ⟨.tuple [.int 0], .tup (SqT.of ht) (.cons (.int _) .nil), by simp [PyData.depth, PyData.depthAll], rfl⟩⟩, .inr ⟨"tuple", .base (.tup ht), .inr (by decide +kernel)⟩⟩
  · exact ⟨⟨Same.refl _, .inr ⟨d, rfl, hd, by decide⟩⟩, .inr ⟨"dict", .base (.dK hd), .inr (by decide +kernel)⟩⟩
/-- what a turn holds -/
structure Tn (K : PySem.W.Frag) (C : Addr) (E : Hp) (p q pm pd pw pr po pr2 pmo : Addr) (ns ms ys ms2 zs : List Str) (lo hi lo2 hi2 : Str → Int) (kv ko : List (Key × V)) (ws ss ss2 wm : List V) (ds es ds2 es2 dm : List PyData) : Prop where
  M : MlIn K C E p ys lo hi ds es
  N : MlIn K C E q zs lo2 hi2 ds2 es2
  m : E pm = some (.lst (ns.map V.str))
  d : E pd = some (.dK kv)
  dt : Pr2 K E ms (fun n => .int (lo n)) (fun n => .int (hi n)) kv
  w : E pw = some (.lst ws)
  wt : DpAll K E ws ds
  r : E pr = some (.lst ss)
  rt : DpAll K E ss es
  o : E po = some (.dK ko)
  ot : Pr2 K E ms2 (fun n => .int (lo2 n)) (fun n => .int (hi2 n)) ko
  r2 : E pr2 = some (.lst ss2)
  r2t : DpAll K E ss2 es2
  mo : E pmo = some (.lst wm)
  mot : DpAll K E wm dm
theorem Tn.up {C : Addr} {E E' : Hp} {p q pm pd pw pr po pr2 pmo : Addr} {ns ms ys ms2 zs : List Str} {lo hi lo2 hi2 : Str → Int} {kv ko : List (Key × V)} {ws ss ss2 wm : List V} {ds es ds2 es2 dm : List PyData}
    (h : Tn K C E p q pm pd pw pr po pr2 pmo ns ms ys ms2 zs lo hi lo2 hi2 kv ko ws ss ss2 wm ds es ds2 es2 dm) (s : Same E E') : Tn K C E' p q pm pd pw pr po pr2 pmo ns ms ys ms2 zs lo hi lo2 hi2 kv ko ws ss ss2 wm ds es ds2 es2 dm :=
  ⟨h.M.up s, h.N.up s, s _ _ h.m, s _ _ h.d, h.dt.up s, s _ _ h.w, dpAllSame s h.wt, s _ _ h.r, dpAllSame s h.rt, s _ _ h.o, h.ot.up s, s _ _ h.r2, dpAllSame s h.r2t, s _ _ h.mo, dpAllSame s h.mot⟩
def spLawT (K : PySem.W.Frag) (P1 P2 : Addr) : Sp := fun vs H Q _ => ∃ (a : Addr) (ns : List Int), vs = [.ref a] ∧ SqL K H a (ns.map V.int) ∧ ns.length ≤ 63 ∧ LamX.Tabs (T2 P1 P2) H ∧ ∀ H', Q (.bl true) H'
theorem ok_lawT (T : Txt K mg A) {oc kW doc pm ct : Value} {od an : Option Addr} {osl : Array (Option Value)} {ocj kWj docj pmj ctj : Value} {odj anj : Option Addr} {oslj : Array (Option Value)} {cL cJ P1 P2 : Addr}
    (lk : K.lookup A.a_law = some ⟨oc, od, .func (PySem.W.fnOf "law" "law" (defArgs s_law) (defBody s_law) (defScope s_law) .none kW doc pm an (.ref cL) ct), osl⟩) (hcd : PySem.W.codeIn K (.ref cL) "law" = true)
    (lkj : K.lookup A.a__law_are_joined = some ⟨ocj, odj, .func (PySem.W.fnOf "_law_are_joined" "_law_are_joined" (defArgs s__law_are_joined) (defBody s__law_are_joined) (defScope s__law_are_joined) .none kWj docj pmj anj (.ref cJ) ctj), oslj⟩) (hcdj : PySem.W.codeIn K (.ref cJ) "_law_are_joined" = true)
    (nPP : P1 ≠ P2) (TBL : LamX.TabB base mg cL P1) (TBJ : LamX.TabB base mg cJ P2) : FnOk P w K mg base CX0 12 A.a_law (PySem.W.fnOf "law" "law" (defArgs s_law) (defBody s_law) (defScope s_law) .none kW doc pm an (.ref cL) ct) P_law (spLawT K P1 P2) := by
  have G__law_fresh : FnOk P w K mg base CX0 1 A.a__law_fresh A.d__law_fresh P__law_fresh (spFresh K) := ok_fresh T
  have G__law_take : FnOk P w K mg base CX0 1 A.a__law_take A.d__law_take P__law_take spTake := ok_take T
  have G__law_names : FnOk P w K mg base CX0 3 A.a__law_names A.d__law_names P__law_names (spNames K) := ok_names T
  have G__law_dishes : FnOk P w K mg base CX0 3 A.a__law_dishes A.d__law_dishes P__law_dishes (spDishes K) := ok_dishes T
  have G__law_wishes : FnOk P w K mg base CX0 4 A.a__law_wishes A.d__law_wishes P__law_wishes (spWishL K) := ok_wishl T
  have G__law_stations : FnOk P w K mg base CX0 3 A.a__law_stations A.d__law_stations P__law_stations (spStationL K) := ok_stationl T
  have G__law_loose : FnOk P w K mg base CX0 5 A.a__law_loose A.d__law_loose P__law_loose (spLooseL K 3) := ok_looseL T 3
  have G__law_with : FnOk P w K mg base CX0 1 A.a__law_with A.d__law_with P__law_with spWith := ok_with T
  have G__law_same : FnOk P w K mg base CX0 4 A.a__law_same A.d__law_same P__law_same (spPair K A.a_Meal 2) := ok_pair T 1
  have G__law_is_meal : FnOk P w K mg base CX0 6 A.a__law_is_meal A.d__law_is_meal P__law_is_meal (spIsMeal K A.a_Meal) := ok_ismeal T
  have G__law_are_joined : FnOk P w K mg base CX0 11 A.a__law_are_joined A.d__law_are_joined P__law_are_joined (spJoin K A.a_Meal P1 P2) := ok_joined T lkj hcdj nPP TBJ
  have G_Meal___init__ : FnOk P w K mg base CX0 5 A.a_Meal___init__ A.d_Meal___init__ P_Meal___init__ (spInit K A.a_Meal) := ok_init T
  have G_Meal_wishes : FnOk P w K mg base CX0 1 A.a_Meal_wishes A.d_Meal_wishes P_Meal_wishes (spMWishes K A.a_Meal) := ok_mwishes T
  have G_Meal_more : FnOk P w K mg base CX0 7 A.a_Meal_more A.d_Meal_more P_Meal_more (spMore K A.a_Meal) := ok_more T
  have G_Meal_taking : FnOk P w K mg base CX0 7 A.a_Meal_taking A.d_Meal_taking P_Meal_taking (spTaking K A.a_Meal) := ok_taking T
  have G_Meal_less : FnOk P w K mg base (L2.CX P w) 9 A.a_Meal_less A.d_Meal_less P_Meal_less (spLess K 2 A.a_Meal A.a_NoWish) := ok_less T 2
  have G_Meal___add__ : FnOk P w K mg base (L2.CX P w) 8 A.a_Meal___add__ A.d_Meal___add__ P_Meal___add__ (spAdd K 1 A.a_Meal A.a_Clash) := ok_add T 1
  obtain ⟨ocT, odT, kVT, docT, pmT, anT, cdT, ctT, oslT, eT, lkT, hcT⟩ := T.f__law_tried.ex
  have hbT := T.b__law_tried
  rw [eT] at lkT hbT
  refine fn_of lk hcd sc_law (fun vs H Q E h => ?_) (fun A' outer s H vs Q E hr h => ?_)
  · obtain ⟨a, ns, rfl, _⟩ := h
    rfl
  · obtain ⟨a, ns, rfl, hS, hlen, hT, k⟩ := h
    refine ⟨_, PSs.nox (pss_cons (ps_set (i := 1) sc_law.nd rfl (Or.inl rfl) (pe_call G__law_fresh (hr.mono (by omega)) (by rfl) T.g__law_fresh T.f__law_fresh.kp T.b__law_fresh .nil pass0 (pa_cons (pv 0) pa_nil)))
 (pss_cons (ps_for PassesOwn.never rfl (pi_range1 (by rfl) T.range (pa_cons pe_int pa_nil)) (pg_name (i := 2) sc_law.nd rfl (Or.inl rfl))
 (pss_cons (ps_set (i := 3) sc_law.nd rfl (Or.inl rfl) (pe_call G__law_names (hr.mono (by omega)) (by rfl) T.g__law_names T.f__law_names.kp T.b__law_names .nil pass0 (pa_cons (pv 1) (pa_cons pe_int pa_nil))))
 (pss_cons (ps_par (i := 4) (j := 5) (by rfl) sc_law.nd rfl rfl (by decide) rfl rfl (pa_cons (pe_slice sl_list (pv 3) po_none (po_some (pe_call G__law_take (hr.mono (by omega)) (by rfl) T.g__law_take T.f__law_take.kp T.b__law_take .nil pass0 (pa_cons (pv 1) (pa_cons pe_int pa_nil))))) (pa_cons (pe_slice sl_list (pv 3) (po_some pe_int) (po_some (pe_op op_add pe_int (pe_call G__law_take (hr.mono (by omega)) (by rfl) T.g__law_take T.f__law_take.kp T.b__law_take .nil pass0 (pa_cons (pv 1) (pa_cons pe_int pa_nil)))))) pa_nil)) (by rfl))
 (pss_cons (ps_par (i := 6) (j := 7) (by rfl) sc_law.nd rfl rfl (by decide) rfl rfl (pa_cons (pe_call G__law_dishes (hr.mono (by omega)) (by rfl) T.g__law_dishes T.f__law_dishes.kp T.b__law_dishes .nil pass0 (pa_cons (pv 1) (pa_cons (pv 4) (pa_cons pe_int pa_nil)))) (pa_cons (pe_call G__law_dishes (hr.mono (by omega)) (by rfl) T.g__law_dishes T.f__law_dishes.kp T.b__law_dishes .nil pass0 (pa_cons (pv 1) (pa_cons (pv 5) (pa_cons pe_int pa_nil)))) pa_nil)) (by rfl))
 (pss_cons (ps_par (i := 8) (j := 9) (by rfl) sc_law.nd rfl rfl (by decide) rfl rfl (pa_cons (pe_call G__law_wishes (hr.mono (by omega)) (by rfl) T.g__law_wishes T.f__law_wishes.kp T.b__law_wishes .nil pass0 (pa_cons (pv 1) (pa_cons (pv 4) (pa_cons pe_int pa_nil)))) (pa_cons (pe_call G__law_wishes (hr.mono (by omega)) (by rfl) T.g__law_wishes T.f__law_wishes.kp T.b__law_wishes .nil pass0 (pa_cons (pv 1) (pa_cons (pv 4) (pa_cons pe_int pa_nil)))) pa_nil)) (by rfl))
 (pss_cons (ps_par (i := 10) (j := 11) (by rfl) sc_law.nd rfl rfl (by decide) rfl rfl (pa_cons (pe_call G__law_stations (hr.mono (by omega)) (by rfl) T.g__law_stations T.f__law_stations.kp T.b__law_stations .nil pass0 (pa_cons (pv 1) (pa_cons (pv 4) pa_nil))) (pa_cons (pe_call G__law_stations (hr.mono (by omega)) (by rfl) T.g__law_stations T.f__law_stations.kp T.b__law_stations .nil pass0 (pa_cons (pv 1) (pa_cons (pv 5) pa_nil))) pa_nil)) (by rfl))
 (pss_cons (ps_asg (pe_tup (pa_cons (pe_make T.mkM G_Meal___init__ (hr.mono (by omega)) (by rfl) T.g_Meal T.b_Meal___init__ .nil pass0 (pa_cons (pv 6) (pa_cons (pv 8) (pa_cons (pv 10) pa_nil)))) (pa_cons (pe_make T.mkM G_Meal___init__ (hr.mono (by omega)) (by rfl) T.g_Meal T.b_Meal___init__ .nil pass0 (pa_cons (pv 7) (pa_cons (pe_call G__law_wishes (hr.mono (by omega)) (by rfl) T.g__law_wishes T.f__law_wishes.kp T.b__law_wishes .nil pass0 (pa_cons (pv 1) (pa_cons (pv 5) (pa_cons pe_int pa_nil)))) (pa_cons (pv 11) pa_nil)))) pa_nil))) (pg_tup (by rfl) (pgs_cons (pg_name (i := 12) sc_law.nd rfl (Or.inr rfl)) (pgs_cons (pg_name (i := 13) sc_law.nd rfl (Or.inl rfl)) pgs_nil))))
 (pss_cons (ps_if (pt_not (pt_val (pe_call G__law_is_meal (hr.mono (by omega)) (by rfl) T.g__law_is_meal T.f__law_is_meal.kp T.b__law_is_meal .nil pass0 (pa_cons (pe_meth (pv 12) T.cl_M T.m_more G_Meal_more (hr.mono (by omega)) T.b_Meal_more .nil pass0 (pa_cons (pe_call G__law_loose (hr.mono (by omega)) (by rfl) T.g__law_loose T.f__law_loose.kp T.b__law_loose .nil pass0 (pa_cons (pv 1) (pa_cons (pv 9) pa_nil))) pa_nil)) (pa_cons (pv 6) (pa_cons (pe_op op_cat (pv 8) (pv 9)) (pa_cons (pv 10) pa_nil)))))))
 (pss_one (ps_ret pe_bl))
 pss_nil)
 (pss_cons (ps_for PassesOwn.never rfl (pi_range1 (by rfl) T.range (pa_cons (pe_callB call_len_seq (by rfl) T.len PySem.boot_len (pa_cons (pv 8) pa_nil)) pa_nil)) (pg_name (i := 14) sc_law.nd rfl (Or.inl rfl))
 (pss_one (ps_if (pt_not (pt_val (pe_call G__law_is_meal (hr.mono (by omega)) (by rfl) T.g__law_is_meal T.f__law_is_meal.kp T.b__law_is_meal .nil pass0 (pa_cons (pe_meth (pv 12) T.cl_M T.m_less G_Meal_less (hr.mono (by omega)) T.b_Meal_less .nil passL (pa_cons (pv 14) pa_nil)) (pa_cons (pv 6) (pa_cons (pe_op op_cat (pe_slice sl_list (pv 8) po_none (po_some (pv 14))) (pe_slice sl_list (pv 8) (po_some (pe_op op_add (pv 14) pe_int)) po_none)) (pa_cons (pv 10) pa_nil)))))))
 (pss_one (ps_ret pe_bl))
 pss_nil)))
 (pss_cons (ps_for PassesOwn.never rfl (pi_list (pe_lst (pa_cons (pe_un un_neg pe_int) (pa_cons (pe_callB call_len_seq (by rfl) T.len PySem.boot_len (pa_cons (pv 8) pa_nil)) (pa_cons pe_non (pa_cons pe_str (pa_cons pe_bl (pa_cons (pe_lst pa_nil) (pa_cons (pe_tup (pa_cons pe_int pa_nil)) (pa_cons pe_dnewK pa_nil)))))))))) (pg_name (i := 15) sc_law.nd rfl (Or.inr rfl))
 (pss_one (ps_if (pt_not (pt_val (pe_call G__law_same (hr.mono (by omega)) (by rfl) T.g__law_same T.f__law_same.kp T.b__law_same .nil pass0 (pa_cons (LamX.pe_lamcall (k := 9) (T := T2 P1 P2) (by rfl) T.g__law_tried T.f__law_tried.kp lkT hcT hbT sc__law_tried rfl (Or.inl rfl) (tried_gives T) TBL rfl (List.mem_cons_self ..) (uqL nPP) (hr.mono (by omega)) (show LamX.LamS (defScope s_law) _ from LamX.lamS_by (by decide +kernel)) rfl (fun _ _ _ _ _ => rfl) (fun A2 o2 s2 H2 E2 f2 c2 hr2 => pe_meth (pv 12) T.cl_M T.m_less G_Meal_less (hr2.mono (by omega)) T.b_Meal_less .nil (passes_call (takes_of rfl rfl rfl rfl) (fun _ _ _ _ h => h)) (pa_cons (pv 15) pa_nil))) (pa_cons (pe_tup (pa_cons pe_str (pa_cons (pv 15) pa_nil))) pa_nil)))))
 (pss_one (ps_ret pe_bl))
 pss_nil)))
 (pss_cons (ps_for PassesOwn.never rfl (pi_list (pv 4)) (pg_name (i := 16) sc_law.nd rfl (Or.inl rfl))
 (pss_cons (ps_set (i := 17) sc_law.nd rfl (Or.inl rfl) (pe_op op_add pe_int (pe_call G__law_take (hr.mono (by omega)) (by rfl) T.g__law_take T.f__law_take.kp T.b__law_take .nil pass0 (pa_cons (pv 1) (pa_cons pe_int pa_nil)))))
 (pss_cons (ps_set (i := 18) sc_law.nd rfl (Or.inl rfl) (pe_meth (pv 12) T.cl_M T.m_taking G_Meal_taking (hr.mono (by omega)) T.b_Meal_taking .nil pass0 (pa_cons (pv 16) (pa_cons (pv 17) (pa_cons (pe_op op_add (pv 17) pe_int) pa_nil)))))
 (pss_one (ps_if (pt_not (pt_val (pe_call G__law_is_meal (hr.mono (by omega)) (by rfl) T.g__law_is_meal T.f__law_is_meal.kp T.b__law_is_meal .nil pass0 (pa_cons (pv 18) (pa_cons (pe_call G__law_with (hr.mono (by omega)) (by rfl) T.g__law_with T.f__law_with.kp T.b__law_with .nil pass0 (pa_cons (pv 6) (pa_cons (pv 16) (pa_cons (pe_tup (pa_cons (pv 17) (pa_cons (pe_op op_add (pv 17) pe_int) pa_nil))) pa_nil)))) (pa_cons (pv 8) (pa_cons (pv 10) pa_nil)))))))
 (pss_one (ps_ret pe_bl))
 pss_nil)))))
 (pss_cons (ps_set (i := 19) sc_law.nd rfl (Or.inl rfl) (pe_callTy (call_dictP rfl) (by rfl) T.dict (by decide +kernel) (pa_cons (pe_op op_cat (LiI.pe_listItems rfl (pv 6) (by rfl) T.list (by decide +kernel)) (LiI.pe_listItems rfl (pv 7) (by rfl) T.list (by decide +kernel))) pa_nil)))
 (pss_cons (ps_for PassesOwn.never rfl (pi_list (pe_lst (pa_cons (pe_tup (pa_cons (pv 12) (pa_cons (pv 13) (pa_cons (pe_op op_cat (pv 10) (pv 11)) pa_nil)))) (pa_cons (pe_tup (pa_cons (pv 13) (pa_cons (pv 12) (pa_cons (pe_op op_cat (pv 11) (pv 10)) pa_nil)))) pa_nil)))) (pg_tup (by rfl) (pgs_cons (pg_name (i := 20) sc_law.nd rfl (Or.inl rfl)) (pgs_cons (pg_name (i := 21) sc_law.nd rfl (Or.inl rfl)) (pgs_cons (pg_name (i := 22) sc_law.nd rfl (Or.inl rfl)) pgs_nil))))
 (pss_one (ps_if (pt_not (pt_val (pe_call G__law_is_meal (hr.mono (by omega)) (by rfl) T.g__law_is_meal T.f__law_is_meal.kp T.b__law_is_meal .nil pass0 (pa_cons (pe_op (Own.op_like G_Meal___add__ T.oAdd.1 T.oAdd.2 T.sfM T.b_Meal___add__ passL (hr.mono (by omega))) (pv 20) (pv 21)) (pa_cons (pv 19) (pa_cons (pe_op op_cat (pe_meth0 (pv 20) T.cl_M T.m_wishes G_Meal_wishes (hr.mono (by omega)) T.b_Meal_wishes .nil pass0) (pe_meth0 (pv 21) T.cl_M T.m_wishes G_Meal_wishes (hr.mono (by omega)) T.b_Meal_wishes .nil pass0)) (pa_cons (pv 22) pa_nil)))))))
 (pss_one (ps_ret pe_bl))
 pss_nil)))
 (pss_one (ps_if (PW.pt (pw_or (pt_not (pt_val (pe_call G__law_are_joined (hr.mono (by omega)) (by rfl) T.g__law_are_joined T.f__law_are_joined.kp T.b__law_are_joined .nil pass0 (pa_cons (pv 1) (pa_cons (pv 12) (pa_cons (pv 4) (pa_cons (pv 7) pa_nil))))))) (pw_or1 (pt_not (pt_val (pe_call G__law_is_meal (hr.mono (by omega)) (by rfl) T.g__law_is_meal T.f__law_is_meal.kp T.b__law_is_meal .nil pass0 (pa_cons (pv 12) (pa_cons (pv 6) (pa_cons (pv 8) (pa_cons (pv 10) pa_nil))))))))))
 (pss_one (ps_ret pe_bl))
 pss_nil)))))))))))))))
 (pss_one (ps_ret pe_bl)))), ?_⟩
    refine ⟨_, rfl, a, ns, rfl, hS, fun st c H1 sm S1 => ?_⟩
    have hT1 : LamX.Tabs (T2 P1 P2) H1 := hT.ext fun b o e => (er_same _ _) _ _ (sm b o e)
    refine ⟨4, rfl, by decide, by decide, for_range (lo := 0) (n := (4 : Int).toNat) (fun i σ' H' => ∃ v2 v3 v4 v5 v6 v7 v8 v9 v10 v11 v12 v13 v14 v15 v16 v17 v18 v19 v20 v21 v22, σ' = [some (.ref a), some (.ref st), v2, v3, v4, v5, v6, v7, v8, v9, v10, v11, v12, v13, v14, v15, v16, v17, v18, v19, v20, v21, v22] ∧ Bd st c P1 P2 (3000 * (i : Int)) H')
      ⟨_, _, _, _, _, _, _, _, _, _, _, _, _, _, _, _, _, _, _, _, _, rfl, by simpa using S1, hT1⟩ ?_ (fun σ' H' _ => k H')⟩
    clear hS sm S1 hT1 hT
    rintro i σ' H0 hi ⟨v2, v3, v4, v5, v6, v7, v8, v9, v10, v11, v12, v13, v14, v15, v16, v17, v18, v19, v20, v21, v22, rfl, B0⟩
    have hi4 : (i : Int) < 4 := by
      have : i < 4 := hi
      omega
    -- names
    refine ⟨_, rfl, st, c, _, 6, rfl, B0.sta, by omega, by omega, fun pn ns H2 hnd hpool hnl g2 hn _ => ?_⟩
    have B2 := B0.gs g2
    clear g2
    refine ⟨_, rfl, ?_⟩
    dsimp only [tNoPart]
    refine ⟨_, rfl, st, c, 4, _, rfl, B2.sta, by omega, by omega, by omega, fun r o hr0 hr1 S1 => ?_⟩
    have B3 := B2.gs (Gs.of_upd S1)
    have hn3 : nE (upd H2 st o) st pn = some (.lst (ns.map V.str)) := by unfold nE; rw [er_upd]; exact nE_of hn fun _ z => nomatch z
    generalize upd H2 st o = H3 at B3 hn3 ⊢
    clear S1 B2 hn
    refine ⟨_, rfl, pn, _, rfl, SqL.of (nE_same _ _ hn3), fun pm npm => ?_⟩
    rw [cutTs (by omega) (by omega)]
    have s4 := Same.new npm (o := .lst ((ns.take r.toNat).map V.str))
    have hm4 : nE (upd H3 pm (.lst ((ns.take r.toNat).map V.str))) st pm = some (.lst ((ns.take r.toNat).map V.str)) := nE_of (er_of (B3.sta.ne npm) upd_same) fun _ z => nomatch z
    have hn4 := nE_mono (st := st) s4 _ _ hn3
    have B4 := B3.same s4
    generalize upd H3 pm (.lst ((ns.take r.toNat).map V.str)) = H4 at B4 hm4 hn4 ⊢
    clear s4 B3 hn3 npm
    refine ⟨_, rfl, _, rfl, _, rfl, st, c, 4, _, rfl, B4.sta, by omega, by omega, by omega, fun r2 o hr20 hr21 S1 => ?_⟩
    have B5 := B4.gs (Gs.of_upd S1)
    have e5 : nE (upd H4 st o) st = nE H4 st := by unfold nE; rw [er_upd]
    rw [← e5] at hm4 hn4
    generalize upd H4 st o = H5 at B5 hm4 hn4 ⊢
    clear S1 B4 e5
    refine ⟨_, _, rfl, rfl, _, rfl, pn, _, rfl, SqL.of (nE_same _ _ hn4), fun pt npt => ?_⟩
    rw [cutMs (by omega) (by omega)]
    have s6 := Same.new npt (o := .lst (((ns.drop 3).take r2.toNat).map V.str))
    have ht6 : nE (upd H5 pt (.lst (((ns.drop 3).take r2.toNat).map V.str))) st pt = some (.lst (((ns.drop 3).take r2.toNat).map V.str)) := nE_of (er_of (B5.sta.ne npt) upd_same) fun _ z => nomatch z
    have hm6 := nE_mono (st := st) s6 _ _ hm4
    have B6 := B5.same s6
    generalize upd H5 pt (.lst (((ns.drop 3).take r2.toNat).map V.str)) = H6 at B6 hm6 ht6 ⊢
    clear s6 B5 hm4 hn4 npt
    have m3 : (ns.take r.toNat).length ≤ 3 := by rw [List.length_take]; omega
    have t3 : ((ns.drop 3).take r2.toNat).length ≤ 3 := by rw [List.length_take]; omega
    have mnd : (ns.take r.toNat).Nodup := hnd.sublist (List.take_sublist _ _)
    have tnd : ((ns.drop 3).take r2.toNat).Nodup := hnd.sublist ((List.take_sublist _ _).trans (List.drop_sublist _ _))
    have mpo : ∀ s ∈ ns.take r.toNat, s ∈ pool := fun s m => hpool s (List.mem_of_mem_take m)
    have tpo : ∀ s ∈ (ns.drop 3).take r2.toNat, s ∈ pool := fun s m => hpool s (List.mem_of_mem_drop (List.mem_of_mem_take m))
    have mt : ∀ s ∈ ns.take r.toNat, s ∉ (ns.drop 3).take r2.toNat := fun s m q => by
      have e : ns = ns.take 3 ++ ns.drop 3 := (List.take_append_drop 3 ns).symm
      rw [e] at hnd
      refine (List.nodup_append.mp hnd).2.2 s ?_ s (List.mem_of_mem_take q) rfl
      have e2 : ns.take r.toNat = (ns.take 3).take r.toNat := by rw [List.take_take, Nat.min_eq_left (by omega)]
      rw [e2] at m
      exact List.mem_of_mem_take m
    generalize ns.take r.toNat = ms1 at hm6 m3 mnd mpo mt ⊢
    generalize (ns.drop 3).take r2.toNat = ts1 at ht6 t3 tnd tpo mt ⊢
    clear hnd hpool hnl
    have mok : ∀ s ∈ ms1, PyData.strOk s = true := fun s m => pool_ok s (mpo s m)
    have tok : ∀ s ∈ ts1, PyData.strOk s = true := fun s m => pool_ok s (tpo s m)
    have sq : ∀ {H : Hp} {p : Addr} {xs : List V}, nE H st p = some (.lst xs) → SqL K (er H st) p xs := fun h => SqL.of (nt_some h)
    -- dishes
    refine ⟨_, _, rfl, ?_⟩
    refine ⟨_, rfl, _, rfl, st, c, pm, ms1, _, 4, rfl, B6.sta, by omega, sq hm6, by omega, mnd, mok, by decide, by decide, fun pd ms kv H7 hperm g7 hd7 _ => ?_⟩
    have B7 := B6.gs g7
    have hm7 := nE_gs g7 _ _ hm6
    have ht7 := nE_gs g7 _ _ ht6
    have kN : ms.Nodup := hperm.nodup_iff.mpr mnd
    obtain ⟨lo, hi', hP7, hB3⟩ := dish_fn hd7 kN
    have hP7 := hP7.nt
    have hd7 := nE_of hd7.at_ fun _ z => nomatch z
    clear hm6 ht6 g7 B6
    refine ⟨_, rfl, _, rfl, st, c, pt, ts1, _, 4, rfl, B7.sta, by omega, sq ht7, by omega, tnd, tok, by decide, by decide, fun po ms2 ko H8 hperm2 g8 ho8 _ => ?_⟩
    have B8 := B7.gs g8
    have hm8 := nE_gs g8 _ _ hm7
    have ht8 := nE_gs g8 _ _ ht7
    have hd8 := nE_gs g8 _ _ hd7
    have hP8 := hP7.up (nE_gs g8)
    have kN2 : ms2.Nodup := hperm2.nodup_iff.mpr tnd
    obtain ⟨lo2, hi2, hQ8, hB4⟩ := dish_fn ho8 kN2
    have hQ8 := hQ8.nt
    have ho8 := nE_of ho8.at_ fun _ z => nomatch z
    clear hm7 ht7 hd7 hP7 g8 B7
    -- wishes
    refine ⟨_, _, rfl, ?_⟩
    refine ⟨_, rfl, _, rfl, st, c, pm, ms1, _, 4, rfl, B8.sta, by omega, by omega, sq hm8, by omega, mok, fun pw ds H9 g9 wl dl _ => ?_⟩
    have B9 := B8.gs g9
    have sE := nE_gs g9
    obtain ⟨ws, hw9, hwt9⟩ := wl.ex
    have hW := wl.each
    have hw9 := nE_of hw9 fun _ z => nomatch z
    have hwt9 := dpAllNt hwt9
    refine ⟨_, rfl, _, rfl, st, c, pm, ms1, _, 3, rfl, B9.sta, by omega, by omega, sq (sE _ _ hm8), by omega, mok, fun pmo dm H10 g10 wl2 dml _ => ?_⟩
    have B10 := B9.gs g10
    have sE2 := nE_gs g10
    have sE := sE.trans sE2
    obtain ⟨wm, ho10, hot10⟩ := wl2.ex
    have hWm := wl2.each
    have ho10 := nE_of ho10 fun _ z => nomatch z
    have hot10 := dpAllNt hot10
    have hw10 := sE2 _ _ hw9
    have hwt10 := dpAllSame sE2 hwt9
    clear hw9 hwt9 wl wl2 g9 g10 sE2
    -- stations
    refine ⟨_, _, rfl, ?_⟩
    refine ⟨_, rfl, _, rfl, st, c, pm, ms1, _, rfl, B10.sta, by omega, sq (sE _ _ hm8), by omega, mnd, mok, fun pr es H11 g11 sl el _ => ?_⟩
    have B11 := B10.gs g11
    have sE3 := nE_gs g11
    obtain ⟨ss, hs11, hst11⟩ := sl.ex
    have hSn := sl.each
    have hs11 := nE_of hs11 fun _ z => nomatch z
    have hst11 := dpAllNt hst11
    refine ⟨_, rfl, _, rfl, st, c, pt, ts1, _, rfl, B11.sta, by omega, sq (sE3 _ _ (sE _ _ ht8)), by omega, tnd, tok, fun pr2 es2 H12 g12 sl2 el2 _ => ?_⟩
    have B12 := B11.gs g12
    have sE4 := nE_gs g12
    obtain ⟨ss2, hr12, hrt12⟩ := sl2.ex
    have hSn2 := sl2.each
    have hr12 := nE_of hr12 fun _ z => nomatch z
    have hrt12 := dpAllNt hrt12
    have sE34 := sE3.trans sE4
    have sEa := sE.trans sE34
    have hm12 := sEa _ _ hm8
    have ht12 := sEa _ _ ht8
    have hd12 := sEa _ _ hd8
    have hP12 := hP8.up sEa
    have ho12 := sEa _ _ ho8
    have hQ12 := hQ8.up sEa
    have hw12 := sE34 _ _ hw10
    have hwt12 := dpAllSame sE34 hwt10
    have hmo12 := sE34 _ _ ho10
    have hmot12 := dpAllSame sE34 hot10
    have hs12 := sE4 _ _ hs11
    have hst12 := dpAllSame sE4 hst11
    clear hm8 ht8 hd8 hP8 ho8 hQ8 hw10 hwt10 ho10 hot10 hs11 hst11 sEa sE34 sE4 sE3 sE g11 g12 sl sl2 B8 B9 B10 B11
    have hB : ∀ n ∈ ms, (Nm n ∧ PyData.strOk n = true) ∧ 1 ≤ lo n ∧ lo n ≤ hi' n := fun n m => by
      have mp := mpo n (hperm.mem_iff.mp m)
      exact ⟨⟨pool_nm n mp, pool_ok n mp⟩, hB3 n m⟩
    have hB2 : ∀ n ∈ ms2, (Nm n ∧ PyData.strOk n = true) ∧ 1 ≤ lo2 n ∧ lo2 n ≤ hi2 n := fun n m => by
      have mp := tpo n (hperm2.mem_iff.mp m)
      exact ⟨⟨pool_nm n mp, pool_ok n mp⟩, hB4 n m⟩
    have ml := hperm.length_eq
    have ml2 := hperm2.length_eq
    -- the meals
    refine ⟨_, _, rfl, ?_⟩
    refine ⟨_, rfl, _, rfl, _, rfl, mk_meal (nE_same _ _ hd12) (hP12.up nE_same).x kN hB (by omega) (.inl (SqL.of (nE_same _ _ hw12))) (dpAllSame nE_same hwt12) (stripAll_tp _ (tpAll_w hW)) (by omega) (fun d m => (hW d m).mono fun n q => hperm.mem_iff.mpr q) (.inl (SqL.of (nE_same _ _ hs12))) (dpAllSame nE_same hst12) (stripAll_tp _ (tpAll_s hSn)) (by omega) (fun d m => (hSn d m).mono fun n q => hperm.mem_iff.mpr q) (fun p H13 ys np s13 MN yp ysr => ?_)⟩
    have B13 := B12.same s13
    have sE := nE_mono (st := st) s13
    have xm : ∀ n, n ∈ ys ↔ n ∈ ms := fun n => yp.mem_iff
    have M13 : MlIn K A.a_Meal (nE H13 st) p ys lo hi' ds es := MlIn.nt ⟨MN _ (keep_er B13.sta), yp.nodup_iff.mpr kN, fun n m => hB n ((xm n).mp m), by rw [yp.length_eq]; omega, ysr, fun d m => (hW d m).mono fun n q => (xm n).mpr (hperm.mem_iff.mpr q), by omega, fun d m => (hSn d m).mono fun n q => (xm n).mpr (hperm.mem_iff.mpr q), by omega⟩
    refine ⟨_, rfl, _, rfl, _, rfl, st, c, pt, ts1, _, 3, rfl, B13.sta, by omega, by omega, sq (sE _ _ ht12), by omega, tok, fun pz ds2 H14 g14 wl dl2 _ => ⟨_, rfl, ?_⟩⟩
    have B14 := B13.gs g14
    have sE2 := nE_gs g14
    have sEa := sE.trans sE2
    obtain ⟨wz, hz14, hzt14⟩ := wl.ex
    have hWz := wl.each
    refine mk_meal (nE_same _ _ (sEa _ _ ho12)) (hQ12.up (sEa.trans nE_same)).x kN2 hB2 (by omega) (.inl (SqL.of ((er_same _ _) _ _ hz14))) (dpAllSame (er_same _ _) hzt14) (stripAll_tp _ (tpAll_w hWz)) (by omega) (fun d m => (hWz d m).mono fun n q => hperm2.mem_iff.mpr q) (.inl (SqL.of (nE_same _ _ (sEa _ _ hr12)))) (dpAllSame (sEa.trans nE_same) hrt12) (stripAll_tp _ (tpAll_s hSn2)) (by omega) (fun d m => (hSn2 d m).mono fun n q => hperm2.mem_iff.mpr q) (fun q H15 zs nq s15 NN zp zsr => ?_)
    have B15 := B14.same s15
    have sE3 := nE_mono (st := st) s15
    have zm : ∀ n, n ∈ zs ↔ n ∈ ms2 := fun n => zp.mem_iff
    have N15 : MlIn K A.a_Meal (nE H15 st) q zs lo2 hi2 ds2 es2 := MlIn.nt ⟨NN _ (keep_er B15.sta), zp.nodup_iff.mpr kN2, fun n m => hB2 n ((zm n).mp m), by rw [zp.length_eq]; omega, zsr, fun d m => (hWz d m).mono fun n q => (zm n).mpr (hperm2.mem_iff.mpr q), by omega, fun d m => (hSn2 d m).mono fun n q => (zm n).mpr (hperm2.mem_iff.mpr q), by omega⟩
    have sEb := sEa.trans sE3
    have F15 : Tn K A.a_Meal (nE H15 st) p q pm pd pw pr po pr2 pmo ms1 ms ys ms2 zs lo hi' lo2 hi2 kv ko ws ss ss2 wm ds es ds2 es2 dm :=
      ⟨M13.up (sE2.trans sE3), N15, sEb _ _ hm12, sEb _ _ hd12, hP12.up sEb, sEb _ _ hw12, dpAllSame sEb hwt12, sEb _ _ hs12, dpAllSame sEb hst12, sEb _ _ ho12, hQ12.up sEb, sEb _ _ hr12, dpAllSame sEb hrt12, sEb _ _ hmo12, dpAllSame sEb hmot12⟩
    clear sEb sEa sE sE2 sE3 M13 N15 MN NN np nq s13 s15 g14 wl hz14 hzt14 hm12 ht12 hd12 hP12 hw12 hwt12 hs12 hst12 ho12 hQ12 hr12 hrt12 hmo12 hmot12 B12 B13 B14
    have yl : ys.length ≤ 3 := by rw [yp.length_eq]; omega
    have zl : zs.length ≤ 3 := by rw [zp.length_eq]; omega
    have y1 : ys.Perm ms1 := yp.trans hperm
    have dis : ∀ n ∈ ys, n ∉ zs := fun n m q => mt n (y1.mem_iff.mp m) (hperm2.mem_iff.mp ((zm n).mp q))
    refine ⟨by show 2 ≤ sizeLine; decide, fun t nt => ?_⟩
    have s16 := Same.new nt (o := .tup [.ref p, .ref q])
    have ht16 : upd H15 t (.tup [.ref p, .ref q]) t = some (.tup [.ref p, .ref q]) := upd_same
    have F16 := F15.up (nE_mono (st := st) s16)
    have B16 := B15.same s16
    generalize upd H15 t (.tup [.ref p, .ref q]) = H16 at F16 B16 ht16 ⊢
    clear s16 F15 B15 nt
    refine ⟨t, _, rfl, SqT.of ht16, rfl, _, _, rfl, _, _, rfl, rfl, ?_⟩
    clear ht16
    -- more
    have ml4 : ys.length ≤ 30 := by omega
    obtain ⟨_, ddm, tqm⟩ := lay_all fun d m => wshN_lay (fun n q => mok n q) (hWm d m)
    have cm := costAll_w hWm
    obtain ⟨dxp, _, _, _, _, _, _, hp16, _⟩ := id F16.M.m.ex
    refine ⟨_, rfl, p, dxp, _, rfl, nE_same _ _ hp16, rfl, _, rfl, _, rfl, st, c, pmo, wm, dm, _, rfl, B16.sta, by omega, sq F16.mo, dpAllSame nt_same F16.mot, ⟨by omega, tqm⟩, by omega, fun v d' L H17 g17 Z sd _ => ?_⟩
    have B17 := B16.gs g17
    have sE := nE_gs g17
    have F17 := F16.up sE
    obtain ⟨a2, xs2, dw, rfl, hx2, hA2, hdw⟩ := lz_seq (lzUp Z (er_same _ _)) sd
    have hdw2 : dw.length = dm.length := by have := congrArg List.length hdw; rwa [stripAll_map, List.length_map] at this
    have hWmy : ∀ d ∈ dm, WshN ys d := fun d m => (hWm d m).mono fun n q => y1.mem_iff.mpr q
    refine ⟨p, a2, ys, lo, hi', ds, es, xs2, dw, rfl, F17.M.up nE_same, hx2, hA2, by rw [hdw]; exact hWmy, by omega, fun p2 H18 s18 M18 => ?_⟩
    rw [hdw] at M18
    have F18 := F17.up (nE_mono (st := st) s18)
    have B18 := B17.same s18
    clear F17 B17 s18 hx2 hA2
    have wl1 : ws.length = ds.length := dpLen F18.wt
    have wl2 : wm.length = dm.length := dpLen F18.mot
    refine ⟨_, rfl, _, rfl, _, rfl, _, _, _, _, rfl, rfl, nE_same _ _ F18.w, nE_same _ _ F18.mo, small (by omega), fun u nu => ⟨_, rfl, ?_⟩⟩
    have s19 := Same.new nu (o := .lst (ws ++ wm))
    have hu19 : upd H18 u (.lst (ws ++ wm)) u = some (.lst (ws ++ wm)) := upd_same
    have F19 := F18.up (nE_mono (st := st) s19)
    have B19 := B18.same s19
    have M19 := M18.up s19
    generalize upd H18 u (.lst (ws ++ wm)) = H19 at hu19 F19 B19 M19 ⊢
    clear F18 B18 M18 s19 nu
    refine ⟨p2, pd, u, pr, kv, ms, ys, lo, hi', _, es, rfl, M19, nE_same _ _ F19.d, F19.dt.up nE_same, yp, .lst (SqL.of hu19) (dpAll_cat (dpAllSame nE_same F19.wt) (dpAllSame nE_same F19.mot)), .lst (SqL.of (nE_same _ _ F19.r)) (dpAllSame nE_same F19.rt), fun H20 s20 => ⟨_, rfl, iteF ?_⟩⟩
    have F20 := F19.up (nE_mono (st := st) s20)
    have B20 := (B19.same s20).le (show _ ≤ 3000 * (i : Int) + 2700 by omega) (by omega)
    clear F19 B19 M19 hu19 s20
    -- less
    obtain ⟨dxp, _, _, _, _, _, _, hpE, _⟩ := id F20.M.m.ex
    obtain ⟨dxq, _, _, _, _, _, _, hqE, _⟩ := id F20.N.m.ex
    have wl1 : ws.length = ds.length := dpLen F20.wt
    refine ⟨_, rfl, pw, ws, rfl, .inl (SqL.of (nE_same _ _ F20.w)), _, rfl, by omega, by omega, for_range (lo := 0) (n := ((ws.length : Nat) : Int).toNat) (fun j σ' H' => ∃ u14, σ' = [some (.ref a), some (.ref st), some (.int (0 + (i : Int))), some (.ref pn), some (.ref pm), some (.ref pt), some (.ref pd), some (.ref po), some (.ref pw), some (.ref pmo), some (.ref pr), some (.ref pr2), some (.ref p), some (.ref q), u14, v15, v16, v17, v18, v19, v20, v21, v22] ∧ Same H20 H') ⟨_, rfl, Same.refl _⟩ ?_ (fun σ' H21 z => ?_)⟩
    · rintro j σ' H' hj ⟨u14, rfl, s1⟩
      have hj : j < ds.length := by rw [Int.toNat_natCast] at hj; omega
      have F' := F20.up (nE_mono (st := st) s1)
      refine ⟨_, rfl, p, dxp, _, rfl, s1 _ _ (nE_same _ _ hpE), rfl, _, rfl, p, _, ys, lo, hi', ds, es, rfl, F'.M.up nE_same, .inl ⟨j, by rw [Int.zero_add], hj, fun p2 H18 s18 M18 => ?_⟩⟩
      have F18 := F'.up (nE_mono (st := st) s18)
      refine ⟨_, rfl, _, rfl, ?_⟩
      dsimp only [tNoPart]
      refine ⟨_, rfl, _, rfl, pw, _, rfl, SqL.of (nE_same _ _ F18.w), fun l nl => ?_⟩
      have s19 := Same.new nl (o := .lst (cutV ws none (some (0 + (j : Int)))))
      have hl19 : upd H18 l (.lst (cutV ws none (some (0 + (j : Int))))) l = some (.lst (ws.take j)) := by rw [upd_same, Int.zero_add, cutT (by omega)]
      generalize upd H18 l (.lst (cutV ws none (some (0 + (j : Int))))) = H19 at s19 hl19 ⊢
      have F19 := F18.up (nE_mono (st := st) s19)
      refine ⟨_, rfl, _, rfl, _, _, rfl, rfl, _, rfl, ?_⟩
      dsimp only [tNoPart]
      refine ⟨pw, _, rfl, SqL.of (nE_same _ _ F19.w), fun l2 nl2 => ?_⟩
      have s22 := Same.new nl2 (o := .lst (cutV ws (some (0 + (j : Int) + 1)) none))
      have hl22 : upd H19 l2 (.lst (cutV ws (some (0 + (j : Int) + 1)) none)) l2 = some (.lst (ws.drop (j + 1))) := by rw [upd_same, Int.zero_add, show ((j : Int) + 1) = ((j + 1 : Nat) : Int) by omega, cutD (by omega)]
      have hl19 := s22 _ _ hl19
      generalize upd H19 l2 (.lst (cutV ws (some (0 + (j : Int) + 1)) none)) = H22 at s22 hl22 hl19 ⊢
      have F22 := F19.up (nE_mono (st := st) s22)
      refine ⟨_, _, _, _, rfl, rfl, hl19, hl22, small (by rw [List.length_take, List.length_drop]; omega), fun u nu => ⟨_, rfl, ?_⟩⟩
      have s23 := Same.new nu (o := .lst (ws.take j ++ ws.drop (j + 1)))
      have F23 := F22.up (nE_mono (st := st) s23)
      have S23 := (s18.trans s19).trans (s22.trans s23)
      exact ⟨p2, pd, u, pr, kv, ms, ys, lo, hi', _, es, rfl, M18.up (s19.trans (s22.trans s23)), nE_same _ _ F23.d, F23.dt.up nE_same, yp, .lst (SqL.of upd_same) (dpAll_cat (dpAll_take j (dpAllSame nE_same F23.wt)) (dpAll_dropN (j + 1) (dpAllSame nE_same F23.wt))), .lst (SqL.of (nE_same _ _ F23.r)) (dpAllSame nE_same F23.rt), fun H24 s24 => ⟨_, rfl, iteF ⟨_, rfl, s1.trans (S23.trans s24)⟩⟩⟩
    obtain ⟨v14, rfl, s21⟩ := z
    have F21 := F20.up (nE_mono (st := st) s21)
    have B21 := B20.same s21
    clear F20 B20 s21
    -- odd ones
    refine ⟨_, rfl, _, rfl, pw, ws, rfl, .inl (SqL.of (nE_same _ _ F21.w)), Nat.zero_le _, fun l nl => ⟨by show 1 ≤ sizeLine; decide, fun t nt d nd => ⟨by show 8 ≤ sizeLine; decide, fun L nL => ?_⟩⟩⟩
    have s22 : Same H21 (upd (upd (upd (upd H21 l (.lst [])) t (.tup [.int 0])) d (.dK [])) L (.lst [.int (-1), .int (ws.length : Nat), .non, .str "0", .bl true, .ref l, .ref t, .ref d])) := (((Same.new nl).trans (Same.new nt)).trans (Same.new nd)).trans (Same.new nL)
    have fl : (upd (upd (upd (upd H21 l (.lst [])) t (.tup [.int 0])) d (.dK [])) L (.lst [.int (-1), .int (ws.length : Nat), .non, .str "0", .bl true, .ref l, .ref t, .ref d])) l = some (.lst []) := Same.new nL _ _ (Same.new nd _ _ (Same.new nt _ _ upd_same))
    have ft : (upd (upd (upd (upd H21 l (.lst [])) t (.tup [.int 0])) d (.dK [])) L (.lst [.int (-1), .int (ws.length : Nat), .non, .str "0", .bl true, .ref l, .ref t, .ref d])) t = some (.tup [.int 0]) := Same.new nL _ _ (Same.new nd _ _ upd_same)
    have fd : (upd (upd (upd (upd H21 l (.lst [])) t (.tup [.int 0])) d (.dK [])) L (.lst [.int (-1), .int (ws.length : Nat), .non, .str "0", .bl true, .ref l, .ref t, .ref d])) d = some (.dK []) := Same.new nL _ _ upd_same
    have fL : (upd (upd (upd (upd H21 l (.lst [])) t (.tup [.int 0])) d (.dK [])) L (.lst [.int (-1), .int (ws.length : Nat), .non, .str "0", .bl true, .ref l, .ref t, .ref d])) L = some (.lst [.int (-1), .int (ws.length : Nat), .non, .str "0", .bl true, .ref l, .ref t, .ref d]) := upd_same
    refine cast_heap (b := upd (upd (upd (upd H21 l (.lst [])) t (.tup [.int 0])) d (.dK [])) L (.lst [.int (-1), .int (ws.length : Nat), .non, .str "0", .bl true, .ref l, .ref t, .ref d])) rfl ?_
    generalize upd (upd (upd (upd H21 l (.lst [])) t (.tup [.int 0])) d (.dK [])) L (.lst [.int (-1), .int (ws.length : Nat), .non, .str "0", .bl true, .ref l, .ref t, .ref d]) = H22 at s22 fl ft fd fL ⊢
    have F22 := F21.up (nE_mono (st := st) s22)
    have B22 := B21.same s22
    clear F21 B21 s22 nl nt nd nL
    have fl := nt_of fl (fun _ z => nomatch z)
    have ft := nt_of ft (fun _ z => nomatch z)
    have fd := nt_of fd (fun _ z => nomatch z)
    have fL := nt_of fL (fun _ z => nomatch z)
    refine ⟨L, rfl, ⟨_, SqL.of (nt_some fL)⟩, for_it (walk_list (K := K) (a := L)) (fun j σ' H' => ∃ u15, σ' = [some (.ref a), some (.ref st), some (.int (0 + (i : Int))), some (.ref pn), some (.ref pm), some (.ref pt), some (.ref pd), some (.ref po), some (.ref pw), some (.ref pmo), some (.ref pr), some (.ref pr2), some (.ref p), some (.ref q), v14, u15, v16, v17, v18, v19, v20, v21, v22] ∧ Same (nt H22) (nt H') ∧ LamX.Tabs (T2 P1 P2) H')
      ⟨_, rfl, Same.refl _, B22.tab⟩ (fun j σ' H' _ ⟨_, _, z, _⟩ => SqL.of (nt_some (z _ _ fL))) ?_ (fun σ' H23 z => ?_)⟩
    · rintro j x σ' H' H'' hj ⟨u15, rfl, sE, tb⟩ ⟨rfl, hx⟩
      have hx := List.mem_of_getElem? hx
      refine ⟨tb, fun G1 eN T1 => ?_⟩
      have s1 := sE.trans (nt_ext eN)
      have F' := F22.up (nE_ext (st := st) (ext_nt s1))
      have od := odd_ok (K := K) (nt_some (s1 _ _ fl)) (nt_some (s1 _ _ ft)) (nt_some (s1 _ _ fd)) hx
      rw [wl1] at od
      obtain ⟨dx3, _, _, _, _, _, _, hp3, _⟩ := id F'.M.m.ex
      refine ⟨_, rfl, p, dx3, _, rfl, nE_same _ _ hp3, rfl, _, rfl, p, x, ys, lo, hi', ds, es, rfl, F'.M.up nE_same, .inr ⟨G1, od.1, od.2, fun y dd G2 s2 hdd sd => .inl ⟨rfl, dd, y, rfl, hdd, fun t1 nt1 => ?_⟩⟩⟩
      refine ⟨_, rfl, by show 2 ≤ sizeLine; decide, fun t2 nt2 => ?_⟩
      have s3 := Same.new nt1 (o := .tup [.str "wish", y])
      have s4 := Same.new nt2 (o := .tup [.str "wish", x])
      refine ⟨t1, t2, y, x, "wish", rfl, s4 _ _ upd_same, upd_same, .inl (sd_symm (sd_up sd (s3.trans s4))), fun G3 s5 => ⟨_, rfl, iteF ?_⟩⟩
      have S5 := (s2.trans s3).trans (s4.trans s5)
      exact ⟨_, rfl, s1.trans (nt_mono S5), T1.ext S5⟩
    obtain ⟨v15, rfl, sE, tb⟩ := z
    have F23 := F22.up (nE_ext (st := st) (ext_nt sE))
    have B23 := B22.ext (ext_nt sE) tb
    clear F22 B22 sE tb fl ft fd fL
    -- taking
    have m3' : ms.length ≤ 3 := by omega
    refine ⟨_, rfl, pm, rfl, ⟨_, SqL.of (nE_same _ _ F23.m)⟩, for_it (walk_list (K := K) (a := pm) (xs := ms1.map V.str)) (fun j σ' H' => ∃ u16 u17 u18, σ' = [some (.ref a), some (.ref st), some (.int (0 + (i : Int))), some (.ref pn), some (.ref pm), some (.ref pt), some (.ref pd), some (.ref po), some (.ref pw), some (.ref pmo), some (.ref pr), some (.ref pr2), some (.ref p), some (.ref q), v14, v15, u16, u17, u18, v19, v20, v21, v22] ∧ Same (nE H23 st) (nE H' st) ∧ Bd st c P1 P2 (3000 * (i : Int) + 2700 + (j : Int)) H')
      ⟨_, _, _, rfl, Same.refl _, by simpa using B23⟩ (fun j σ' H' _ ⟨_, _, _, _, z, _⟩ => SqL.of (nE_same _ _ (z _ _ F23.m))) ?_ (fun σ' H24 z => ?_)⟩
    · rintro j x σ' H' H'' hj ⟨u16, u17, u18, rfl, sE, B⟩ ⟨rfl, hx⟩
      obtain ⟨hj1, rfl⟩ := str_at hx
      have mj : ms1[j] ∈ ms1 := List.getElem_mem hj1
      generalize ms1[j] = nm at mj ⊢
      have hj3 : (j : Int) < 3 := by omega
      refine ⟨_, rfl, st, c, 9, _, rfl, B.sta, by omega, by omega, by omega, fun r o hr0 hr1 S1 => ⟨_, _, rfl, rfl, ?_⟩⟩
      have B' := B.gs (Gs.of_upd S1)
      have e5 : nE (upd H'' st o) st = nE H'' st := by unfold nE; rw [er_upd]
      have F' := F23.up sE
      rw [← e5] at F' sE
      generalize upd H'' st o = G1 at B' F' sE ⊢
      obtain ⟨dx3, _, _, _, _, _, _, hp3, _⟩ := id F'.M.m.ex
      refine ⟨_, rfl, p, dx3, _, rfl, nE_same _ _ hp3, rfl, _, rfl, _, rfl, _, rfl, _, _, rfl, rfl, p, nm, 1 + r, 1 + r + 2, ys, lo, hi', ds, es, rfl, F'.M.up nE_same, y1.mem_iff.mpr mj, by omega, by omega, fun p2 G2 s2 M2 => ?_⟩
      have F2 := F'.up (nE_mono (st := st) s2)
      refine ⟨_, rfl, _, rfl, _, rfl, _, rfl, _, rfl, _, _, rfl, rfl, by show 2 ≤ sizeLine; decide, fun t nt => ?_⟩
      have s3 := Same.new nt (o := .tup [.int (1 + r), .int (1 + r + 2)])
      have ht3 : upd G2 t (.tup [.int (1 + r), .int (1 + r + 2)]) t = some (.tup [.int (1 + r), .int (1 + r + 2)]) := upd_same
      generalize upd G2 t (.tup [.int (1 + r), .int (1 + r + 2)]) = G3 at s3 ht3 ⊢
      have F3 := F2.up (nE_mono (st := st) s3)
      refine ⟨pd, .inr nm, .ref t, kv, rfl, .inl (nE_same _ _ F3.d), by rw [F3.dt.len]; omega, fun pe G4 npe s4 he => ?_⟩
      have F4 := F3.up (nE_mono (st := st) s4)
      have P4 := ((F4.dt.up nE_same).put2 (hperm.mem_iff.mpr mj) (SqT.of (s4 _ _ ht3))).congr (f' := fun x => .int (if x = nm then 1 + r else lo x)) (g' := fun x => .int (if x = nm then 1 + r + 2 else hi' x)) fun x _ => ⟨ifInt _ _ _, ifInt _ _ _⟩
      refine ⟨_, rfl, _, rfl, p2, pe, pw, pr, _, ms, ys, _, _, ds, es, rfl, M2.up (s3.trans s4), he, P4, yp, .lst (SqL.of (nE_same _ _ F4.w)) (dpAllSame nE_same F4.wt), .lst (SqL.of (nE_same _ _ F4.r)) (dpAllSame nE_same F4.rt), fun G5 s5 => ⟨_, rfl, iteF ?_⟩⟩
      have S5 := (s2.trans s3).trans (s4.trans s5)
      exact ⟨_, _, _, rfl, sE.trans (nE_mono S5), (B'.same S5).le (by omega) (by omega)⟩
    obtain ⟨v16, v17, v18, rfl, sE, B24⟩ := z
    rw [List.length_map] at B24
    have F24 := F23.up sE
    have B24 := B24.le (show _ ≤ 3000 * (i : Int) + 2703 by omega) (by omega)
    clear F23 B23 sE
    -- both
    refine ⟨_, rfl, pd, kv, rfl, nE_same _ _ F24.d, fun Ha il ts sa _ nts _ hil hts => ?_⟩
    have F25 := F24.up (nE_mono (st := st) sa)
    refine ⟨_, rfl, po, ko, rfl, nE_same _ _ F25.o, fun Hb il2 ts2 sb _ nts2 _ hil2 hts2 => ?_⟩
    have F26 := F25.up (nE_mono (st := st) sb)
    have tl : ts.length = ms.length := by rw [hts.length, F24.dt.len]
    have tl2 : ts2.length = ms2.length := by rw [hts2.length, F24.ot.len]
    refine ⟨_, _, _, _, rfl, rfl, sb _ _ hil, hil2, small (by rw [List.length_map, List.length_map]; omega), fun L nL => ?_⟩
    have s4 := Same.new nL (o := .lst (ts.map V.ref ++ ts2.map V.ref))
    have hL : upd Hb L (.lst (ts.map V.ref ++ ts2.map V.ref)) L = some (.lst ((ts ++ ts2).map V.ref)) := by rw [upd_same, List.map_append]
    generalize upd Hb L (.lst (ts.map V.ref ++ ts2.map V.ref)) = H26 at s4 hL ⊢
    refine ⟨L, ts ++ ts2, kv ++ ko, rfl, SqL.of hL, paired_app (paired_imp (fun t (kv : Key × V) z => SqT.of (s4 _ _ (sb _ _ z))) hts) (paired_imp (fun t (kv : Key × V) z => SqT.of (s4 _ _ z)) hts2), fun pb npb => ?_⟩
    have mz : ∀ n ∈ ms, n ∉ zs := fun n m => dis n (xm n |>.mpr m)
    have nN : (ms ++ ms2).Nodup := List.nodup_append.mpr ⟨kN, kN2, fun x hx y hy e => mz x hx (by rw [e]; exact (zm y).mpr hy)⟩
    rw [merge_all _ [] (by rw [List.nil_append, List.map_append, F24.dt.keys, F24.ot.keys, ← List.map_append]; exact inr_nd nN), List.nil_append]
    have s5 := Same.new npb (o := .dK (kv ++ ko))
    have hb : upd H26 pb (.dK (kv ++ ko)) pb = some (.dK (kv ++ ko)) := upd_same
    have S5 := (Same.trans sa sb).trans (s4.trans s5)
    generalize upd H26 pb (.dK (kv ++ ko)) = H27 at hb S5 ⊢
    have F27 := F24.up (nE_mono (st := st) S5)
    have B27 := B24.same S5
    have hPb : Pr2 K H27 (ms ++ ms2) (fun n => .int (mx zs lo lo2 n)) (fun n => .int (mx zs hi' hi2 n)) (kv ++ ko) := by
      refine Pr2.cat ((F27.dt.up nE_same).congr fun n m => ?_) ((F27.ot.up nE_same).congr fun n m => ?_)
      · unfold mx; rw [if_neg (mz n m), if_neg (mz n m)]; exact ⟨rfl, rfl⟩
      · unfold mx; rw [if_pos ((zm n).mpr m), if_pos ((zm n).mpr m)]; exact ⟨rfl, rfl⟩
    have mxx : ∀ n ∈ ms ++ ms2, V.int (mx zs lo lo2 n) = .int (mx ys lo2 lo n) ∧ V.int (mx zs hi' hi2 n) = .int (mx ys hi2 hi' n) := fun n m => by
      rcases List.mem_append.mp m with m | m
      · have a1 := (xm n).mpr m
        unfold mx; rw [if_neg (mz n m), if_neg (mz n m), if_pos a1, if_pos a1]; exact ⟨rfl, rfl⟩
      · have a1 := (zm n).mpr m
        have a2 : n ∉ ys := fun z => dis n z a1
        unfold mx; rw [if_pos a1, if_pos a1, if_neg a2, if_neg a2]; exact ⟨rfl, rfl⟩
    clear F24 B24 F25 F26 hil hil2 hts hts2 s4 s5 hL npb nL sa sb nts nts2 S5 tl tl2
    -- together
    have sl1 : ss.length = es.length := dpLen F27.rt
    have sl2 : ss2.length = es2.length := dpLen F27.r2t
    refine ⟨_, rfl, _, rfl, _, rfl, _, rfl, _, _, _, _, rfl, rfl, nE_same _ _ F27.r, nE_same _ _ F27.r2, small (by omega), fun r1 nr1 => ⟨by show 3 ≤ sizeLine; decide, fun t1 nt1 => ?_⟩⟩
    have s28 := (Same.new nr1 (o := .lst (ss ++ ss2))).trans (Same.new nt1 (o := .tup [.ref p, .ref q, .ref r1]))
    have hr1 : upd (upd H27 r1 (.lst (ss ++ ss2))) t1 (.tup [.ref p, .ref q, .ref r1]) r1 = some (.lst (ss ++ ss2)) := Same.new nt1 _ _ upd_same
    have ht1 : upd (upd H27 r1 (.lst (ss ++ ss2))) t1 (.tup [.ref p, .ref q, .ref r1]) t1 = some (.tup [.ref p, .ref q, .ref r1]) := upd_same
    generalize upd (upd H27 r1 (.lst (ss ++ ss2))) t1 (.tup [.ref p, .ref q, .ref r1]) = H28 at s28 hr1 ht1 ⊢
    have F28 := F27.up (nE_mono (st := st) s28)
    refine ⟨_, rfl, _, rfl, _, rfl, _, rfl, _, _, _, _, rfl, rfl, nE_same _ _ F28.r2, nE_same _ _ F28.r, small (by omega), fun r3 nr3 => ⟨by show 3 ≤ sizeLine; decide, fun t2 nt2 => ⟨by show 2 ≤ sizeLine; decide, fun L nL => ?_⟩⟩⟩
    have s29 := ((Same.new nr3 (o := .lst (ss2 ++ ss))).trans (Same.new nt2 (o := .tup [.ref q, .ref p, .ref r3]))).trans (Same.new nL (o := .lst [.ref t1, .ref t2]))
    have hr3 : upd (upd (upd H28 r3 (.lst (ss2 ++ ss))) t2 (.tup [.ref q, .ref p, .ref r3])) L (.lst [.ref t1, .ref t2]) r3 = some (.lst (ss2 ++ ss)) := Same.new nL _ _ (Same.new nt2 _ _ upd_same)
    have ht2 : upd (upd (upd H28 r3 (.lst (ss2 ++ ss))) t2 (.tup [.ref q, .ref p, .ref r3])) L (.lst [.ref t1, .ref t2]) t2 = some (.tup [.ref q, .ref p, .ref r3]) := Same.new nL _ _ upd_same
    have hL : upd (upd (upd H28 r3 (.lst (ss2 ++ ss))) t2 (.tup [.ref q, .ref p, .ref r3])) L (.lst [.ref t1, .ref t2]) L = some (.lst [.ref t1, .ref t2]) := upd_same
    generalize upd (upd (upd H28 r3 (.lst (ss2 ++ ss))) t2 (.tup [.ref q, .ref p, .ref r3])) L (.lst [.ref t1, .ref t2]) = H29 at s29 hr3 ht2 hL ⊢
    have S29 := s28.trans s29
    have hr1 := s29 _ _ hr1
    have ht1 := s29 _ _ ht1
    have hb := S29 _ _ hb
    have hPb := hPb.up S29
    have F29 := F27.up (nE_mono (st := st) S29)
    have B29 := B27.same S29
    clear F27 B27 F28 s28 s29 S29 nr1 nt1 nr3 nt2 nL
    have hrt1 : DpAll K H29 (ss ++ ss2) (es ++ es2) := dpAll_cat (dpAllSame nE_same F29.rt) (dpAllSame nE_same F29.r2t)
    have hrt3 : DpAll K H29 (ss2 ++ ss) (es2 ++ es) := dpAll_cat (dpAllSame nE_same F29.r2t) (dpAllSame nE_same F29.rt)
    refine ⟨L, rfl, ⟨_, SqL.of hL⟩, for_it (walk_list (K := K) (a := L) (xs := [.ref t1, .ref t2])) (fun j σ' H' => ∃ u20 u21 u22, σ' = [some (.ref a), some (.ref st), some (.int (0 + (i : Int))), some (.ref pn), some (.ref pm), some (.ref pt), some (.ref pd), some (.ref po), some (.ref pw), some (.ref pmo), some (.ref pr), some (.ref pr2), some (.ref p), some (.ref q), v14, v15, v16, v17, v18, some (.ref pb), u20, u21, u22] ∧ Same H29 H')
      ⟨_, _, _, rfl, Same.refl _⟩ (fun j σ' H' _ ⟨_, _, _, _, z⟩ => SqL.of (z _ _ hL)) ?_ (fun σ' H30 z => ?_)⟩
    · rintro j x σ' H' H'' hj ⟨u20, u21, u22, rfl, s1⟩ ⟨rfl, hx⟩
      have hx := List.mem_of_getElem? hx
      have F' := F29.up (nE_mono (st := st) s1)
      simp only [List.mem_cons, List.not_mem_nil, or_false] at hx
      rcases hx with e | e <;> subst e
      · have M0 := F'.M.up nE_same
        have N0 := F'.N.up nE_same
        obtain ⟨da, _, _, _, _, _, _, ha, _⟩ := id M0.m.ex
        obtain ⟨db, _, _, _, _, _, _, hb2, _⟩ := id N0.m.ex
        refine ⟨t1, _, rfl, SqT.of (s1 _ _ ht1), rfl, _, _, rfl, _, _, rfl, _, _, rfl, rfl, ?_⟩
        have dl := M0.dl
        have el := M0.el
        refine ⟨_, rfl, _, rfl, p, da, _, rfl, ha, ⟨q, db, _, rfl, hb2⟩, p, q, ys, zs, lo, hi', lo2, hi2, ds, es, ds2, es2, rfl, M0, N0, by omega, by omega, by omega, .inl ⟨dis, fun p3 x3 H8 s8 M3 e3 => ⟨_, rfl, ?_⟩⟩⟩
        refine ⟨_, rfl, _, rfl, p, da, _, rfl, s8 _ _ ha, rfl, p, ys, lo, hi', ds, es, rfl, M0.m.up s8, fun l2 ws2 nl2 A2 => ?_⟩
        have s9 := Same.new nl2 (o := .lst ws2)
        have hl2 : upd H8 l2 (.lst ws2) l2 = some (.lst ws2) := upd_same
        have A2 := dpAllSame s9 A2
        generalize upd H8 l2 (.lst ws2) = H9 at s9 hl2 A2 ⊢
        have S9 := s8.trans s9
        refine ⟨_, rfl, q, db, _, rfl, S9 _ _ hb2, rfl, q, zs, lo2, hi2, ds2, es2, rfl, N0.m.up S9, fun l3 ws3 nl3 A3 => ?_⟩
        have s10 := Same.new nl3 (o := .lst ws3)
        have hl3 : upd H9 l3 (.lst ws3) l3 = some (.lst ws3) := upd_same
        have A3 := dpAllSame s10 A3
        have A2 := dpAllSame s10 A2
        have hl2 := s10 _ _ hl2
        generalize upd H9 l3 (.lst ws3) = H10 at s10 hl2 hl3 A2 A3 ⊢
        have w2 : ws2.length = ds.length := dpLen A2
        have w3 : ws3.length = ds2.length := dpLen A3
        refine ⟨_, _, _, _, rfl, rfl, hl2, hl3, small (by omega), fun u nu => ⟨_, rfl, ?_⟩⟩
        have s11 := Same.new nu (o := .lst (ws2 ++ ws3))
        have S11 := S9.trans (s10.trans s11)
        refine ⟨p3, pb, u, r1, kv ++ ko, ms ++ ms2, x3, _, _, _, _, rfl, M3.up (s9.trans (s10.trans s11)), S11 _ _ (s1 _ _ hb), hPb.up (s1.trans S11), e3.trans (yp.append zp), .lst (SqL.of upd_same) (dpAll_cat (dpAllSame s11 A2) (dpAllSame s11 A3)), .lst (SqL.of (S11 _ _ (s1 _ _ hr1))) (dpAllSame (s1.trans S11) hrt1), fun H12 s12 => ⟨_, rfl, iteF ?_⟩⟩
        exact ⟨_, _, _, rfl, s1.trans (S11.trans s12)⟩
      · have M0 := F'.N.up nE_same
        have N0 := F'.M.up nE_same
        obtain ⟨da, _, _, _, _, _, _, ha, _⟩ := id M0.m.ex
        obtain ⟨db, _, _, _, _, _, _, hb2, _⟩ := id N0.m.ex
        refine ⟨t2, _, rfl, SqT.of (s1 _ _ ht2), rfl, _, _, rfl, _, _, rfl, _, _, rfl, rfl, ?_⟩
        have dl := M0.dl
        have el := M0.el
        refine ⟨_, rfl, _, rfl, q, da, _, rfl, ha, ⟨p, db, _, rfl, hb2⟩, q, p, zs, ys, lo2, hi2, lo, hi', ds2, es2, ds, es, rfl, M0, N0, by omega, by omega, by omega, .inl ⟨(fun n m z => dis n z m), fun p3 x3 H8 s8 M3 e3 => ⟨_, rfl, ?_⟩⟩⟩
        refine ⟨_, rfl, _, rfl, q, da, _, rfl, s8 _ _ ha, rfl, q, zs, lo2, hi2, ds2, es2, rfl, M0.m.up s8, fun l2 ws2 nl2 A2 => ?_⟩
        have s9 := Same.new nl2 (o := .lst ws2)
        have hl2 : upd H8 l2 (.lst ws2) l2 = some (.lst ws2) := upd_same
        have A2 := dpAllSame s9 A2
        generalize upd H8 l2 (.lst ws2) = H9 at s9 hl2 A2 ⊢
        have S9 := s8.trans s9
        refine ⟨_, rfl, p, db, _, rfl, S9 _ _ hb2, rfl, p, ys, lo, hi', ds, es, rfl, N0.m.up S9, fun l3 ws3 nl3 A3 => ?_⟩
        have s10 := Same.new nl3 (o := .lst ws3)
        have hl3 : upd H9 l3 (.lst ws3) l3 = some (.lst ws3) := upd_same
        have A3 := dpAllSame s10 A3
        have A2 := dpAllSame s10 A2
        have hl2 := s10 _ _ hl2
        generalize upd H9 l3 (.lst ws3) = H10 at s10 hl2 hl3 A2 A3 ⊢
        have w2 : ws2.length = ds2.length := dpLen A2
        have w3 : ws3.length = ds.length := dpLen A3
        refine ⟨_, _, _, _, rfl, rfl, hl2, hl3, small (by omega), fun u nu => ⟨_, rfl, ?_⟩⟩
        have s11 := Same.new nu (o := .lst (ws2 ++ ws3))
        have S11 := S9.trans (s10.trans s11)
        refine ⟨p3, pb, u, r3, kv ++ ko, ms ++ ms2, x3, _, _, _, _, rfl, M3.up (s9.trans (s10.trans s11)), S11 _ _ (s1 _ _ hb), (hPb.congr mxx).up (s1.trans S11), e3.trans ((zp.append yp).trans List.perm_append_comm), .lst (SqL.of upd_same) (dpAll_cat (dpAllSame s11 A2) (dpAllSame s11 A3)), .lst (SqL.of (S11 _ _ (s1 _ _ hr3))) (dpAllSame (s1.trans S11) hrt3), fun H12 s12 => ⟨_, rfl, iteF ?_⟩⟩
        exact ⟨_, _, _, rfl, s1.trans (S11.trans s12)⟩
    obtain ⟨v20, v21, v22, rfl, s30⟩ := z
    have F30 := F29.up (nE_mono (st := st) s30)
    have B30 := B29.same s30
    clear F29 B29 hr1 ht1 hr3 ht2 hL hb hPb hrt1 hrt3 s30
    -- joined
    refine ⟨_, rfl, _, rfl, _, rfl, _, rfl, st, c, p, pm, po, _, ms1, ys, ms2, lo, hi', lo2, hi2, ds, es, ko, rfl, B30, by omega, F30.M, sq F30.m, y1, F30.o, F30.ot, kN2, hB2, (fun n m z => dis n m ((zm n).mpr z)), by omega, fun H31 sE B31 => ⟨_, rfl, iteF ?_⟩⟩
    have F31 := F30.up sE
    refine ⟨_, rfl, _, rfl, _, rfl, _, rfl, p, pd, pw, pr, kv, ms, ys, lo, hi', ds, es, rfl, F31.M.up nE_same, nE_same _ _ F31.d, F31.dt.up nE_same, yp, .lst (SqL.of (nE_same _ _ F31.w)) (dpAllSame nE_same F31.wt), .lst (SqL.of (nE_same _ _ F31.r)) (dpAllSame nE_same F31.rt), fun H32 s32 => ⟨_, rfl, iteF ?_⟩⟩
    exact ⟨_, _, _, _, _, _, _, _, _, _, _, _, _, _, _, _, _, _, _, _, _, rfl, (B31.same s32).le (by omega) (by omega)⟩
end
end K5
set_option Elab.async false
set_option linter.all false
set_option maxRecDepth 100000
set_option maxHeartbeats 4000000
namespace K5
open PySem L2
local macro_rules | `(tactic| walk_at "rd1") => `(tactic| first
  | refine ⟨_, _, rfl, rfl, ?_⟩
  | refine ⟨_, _, _, _, rfl, rfl, SqL.of (by assumption), rfl, ?_⟩
  | refine ⟨_, _, _, _, rfl, rfl, (by assumption), rfl, ?_⟩
  | refine .inl ⟨_, rfl, ?_⟩
  | refine ⟨_, rfl, ?_⟩
  | refine ⟨(by unfold CMul; omega), ?_⟩
  | refine ⟨(by unfold CPow; omega), ?_⟩
  | refine ⟨(by (try dsimp only); omega), ?_⟩
  | refine ⟨(by unfold CDiv; omega), ?_⟩
  | fail "rd1")
local macro_rules | `(tactic| walk_at "rd") => `(tactic| repeat' (walk_at "rd1"))
section
variable {P : Program} {w : World} {K : PySem.W.Frag} {mg : Str → Option Value} {base : Heap} {A : Ad}
theorem all_mk {l : PySem.W.OpenLaw} {w : World} {K : PySem.W.Frag} {h : Heap} {mg : Str → Option Value} {fa cL P1 cJ P2 : Addr} (X : K.In h) (G : h.Ns mainGlobals mg) (hfa : mg ("law" : Str) = some (.ref fa))
    {c_NoWish : Addr} {nm_NoWish qn_NoWish : Str} {N_NoWish : Addr} {bs_NoWish bm_NoWish sb_NoWish : List Value} {sn_NoWish : List Str} {ab_NoWish : Bool} {col_NoWish : Option Bool} {dd_NoWish : Option Addr} {k0_NoWish k1_NoWish k2_NoWish k3_NoWish k5_NoWish : Option Value}
    (y1_NoWish : PySem.W.nsIn K mainGlobals "NoWish" = some (some (.ref c_NoWish)))
    (oe_NoWish : K.lookup c_NoWish = some (excClassObj nm_NoWish qn_NoWish c_NoWish N_NoWish bs_NoWish bm_NoWish true sn_NoWish sb_NoWish ab_NoWish col_NoWish dd_NoWish k0_NoWish k1_NoWish k2_NoWish k3_NoWish k5_NoWish "ValueError.__new__")) (re_NoWish : PySem.HandSPX.refsVE bm_NoWish = true) (sa_NoWish : PySem.W.findIn K (.ref c_NoWish) "__setattr__" = some (some (.builtin "object.__setattr__"))) (sx_NoWish : PySem.W.subIn K (.ref c_NoWish) (.type "BaseException") = some true) (ty_NoWish : PySem.W.typeIn K (.ref c_NoWish) = some (.type "type")) (ke_NoWish : PySem.W.keepIn K (.ref c_NoWish) = true)
    (ga_NoWish : PySem.W.findIn K (.ref c_NoWish) "__getattribute__" = some (some (.builtin "BaseException.__getattribute__"))) (gg_NoWish : PySem.W.findIn K (.ref c_NoWish) "__getattr__" = some none) (hd_NoWish : PySem.W.hasDictIn K c_NoWish = true)
    (z_NoWish_index : PySem.W.findIn K (.ref c_NoWish) "index" = some none)
    {c_Clash : Addr} {nm_Clash qn_Clash : Str} {N_Clash : Addr} {bs_Clash bm_Clash sb_Clash : List Value} {sn_Clash : List Str} {ab_Clash : Bool} {col_Clash : Option Bool} {dd_Clash : Option Addr} {k0_Clash k1_Clash k2_Clash k3_Clash k5_Clash : Option Value}
    (y1_Clash : PySem.W.nsIn K mainGlobals "Clash" = some (some (.ref c_Clash)))
    (oe_Clash : K.lookup c_Clash = some (excClassObj nm_Clash qn_Clash c_Clash N_Clash bs_Clash bm_Clash true sn_Clash sb_Clash ab_Clash col_Clash dd_Clash k0_Clash k1_Clash k2_Clash k3_Clash k5_Clash "ValueError.__new__")) (re_Clash : PySem.HandSPX.refsVE bm_Clash = true) (sa_Clash : PySem.W.findIn K (.ref c_Clash) "__setattr__" = some (some (.builtin "object.__setattr__"))) (sx_Clash : PySem.W.subIn K (.ref c_Clash) (.type "BaseException") = some true) (ty_Clash : PySem.W.typeIn K (.ref c_Clash) = some (.type "type")) (ke_Clash : PySem.W.keepIn K (.ref c_Clash) = true)
    (ga_Clash : PySem.W.findIn K (.ref c_Clash) "__getattribute__" = some (some (.builtin "BaseException.__getattribute__"))) (gg_Clash : PySem.W.findIn K (.ref c_Clash) "__getattr__" = some none) (hd_Clash : PySem.W.hasDictIn K c_Clash = true)
    (z_Clash_name : PySem.W.findIn K (.ref c_Clash) "name" = some none)
    {c_Meal : Addr}
    (y1_Meal : PySem.W.nsIn K mainGlobals "Meal" = some (some (.ref c_Meal)))
    (y2_Meal : PySem.W.plainGet K c_Meal Str.empty = true) (y3_Meal : PySem.W.hasDictIn K c_Meal = true) (y4_Meal : PySem.W.plainOver K c_Meal = true) (y5_Meal : PySem.W.findIn K (.ref c_Meal) "__setattr__" = some (some (.builtin "object.__setattr__"))) (y6_Meal : PySem.W.makesIn K c_Meal = true) (y7_Meal : PySem.W.keepIn K (.ref c_Meal) = true)
    (z_Meal_bounds : PySem.W.findIn K (.ref c_Meal) "bounds" = some none)
    (z_Meal_wished : PySem.W.findIn K (.ref c_Meal) "wished" = some none)
    (z_Meal_places : PySem.W.findIn K (.ref c_Meal) "places" = some none)
    {f_is_integer : Addr} {od_is_integer an_is_integer : Option Addr} {sl_is_integer : Array (Option Value)} {oc_is_integer kV_is_integer dc_is_integer pm_is_integer cd_is_integer ct_is_integer : Value}
    (x1_is_integer : PySem.W.nsIn K mainGlobals "is_integer" = some (some (.ref f_is_integer)))
    (x2_is_integer : K.lookup f_is_integer = some ⟨oc_is_integer, od_is_integer, .func (PySem.W.fnOf "is_integer" "is_integer" (defArgs s_is_integer) (defBody s_is_integer) (defScope s_is_integer) .none kV_is_integer dc_is_integer pm_is_integer an_is_integer cd_is_integer ct_is_integer), sl_is_integer⟩)
    (x3_is_integer : PySem.W.codeIn K cd_is_integer "is_integer" = true) (x4_is_integer : PySem.W.keepIn K (.ref f_is_integer) = true)
    {f_is_list : Addr} {od_is_list an_is_list : Option Addr} {sl_is_list : Array (Option Value)} {oc_is_list kV_is_list dc_is_list pm_is_list cd_is_list ct_is_list : Value}
    (x1_is_list : PySem.W.nsIn K mainGlobals "is_list" = some (some (.ref f_is_list)))
    (x2_is_list : K.lookup f_is_list = some ⟨oc_is_list, od_is_list, .func (PySem.W.fnOf "is_list" "is_list" (defArgs s_is_list) (defBody s_is_list) (defScope s_is_list) .none kV_is_list dc_is_list pm_is_list an_is_list cd_is_list ct_is_list), sl_is_list⟩)
    (x3_is_list : PySem.W.codeIn K cd_is_list "is_list" = true) (x4_is_list : PySem.W.keepIn K (.ref f_is_list) = true)
    {f_is_name : Addr} {od_is_name an_is_name : Option Addr} {sl_is_name : Array (Option Value)} {oc_is_name kV_is_name dc_is_name pm_is_name cd_is_name ct_is_name : Value}
    (x1_is_name : PySem.W.nsIn K mainGlobals "is_name" = some (some (.ref f_is_name)))
    (x2_is_name : K.lookup f_is_name = some ⟨oc_is_name, od_is_name, .func (PySem.W.fnOf "is_name" "is_name" (defArgs s_is_name) (defBody s_is_name) (defScope s_is_name) .none kV_is_name dc_is_name pm_is_name an_is_name cd_is_name ct_is_name), sl_is_name⟩)
    (x3_is_name : PySem.W.codeIn K cd_is_name "is_name" = true) (x4_is_name : PySem.W.keepIn K (.ref f_is_name) = true)
    {f_is_dish : Addr} {od_is_dish an_is_dish : Option Addr} {sl_is_dish : Array (Option Value)} {oc_is_dish kV_is_dish dc_is_dish pm_is_dish cd_is_dish ct_is_dish : Value}
    (x1_is_dish : PySem.W.nsIn K mainGlobals "is_dish" = some (some (.ref f_is_dish)))
    (x2_is_dish : K.lookup f_is_dish = some ⟨oc_is_dish, od_is_dish, .func (PySem.W.fnOf "is_dish" "is_dish" (defArgs s_is_dish) (defBody s_is_dish) (defScope s_is_dish) .none kV_is_dish dc_is_dish pm_is_dish an_is_dish cd_is_dish ct_is_dish), sl_is_dish⟩)
    (x3_is_dish : PySem.W.codeIn K cd_is_dish "is_dish" = true) (x4_is_dish : PySem.W.keepIn K (.ref f_is_dish) = true)
    {f_is_index : Addr} {od_is_index an_is_index : Option Addr} {sl_is_index : Array (Option Value)} {oc_is_index kV_is_index dc_is_index pm_is_index cd_is_index ct_is_index : Value}
    (x1_is_index : PySem.W.nsIn K mainGlobals "is_index" = some (some (.ref f_is_index)))
    (x2_is_index : K.lookup f_is_index = some ⟨oc_is_index, od_is_index, .func (PySem.W.fnOf "is_index" "is_index" (defArgs s_is_index) (defBody s_is_index) (defScope s_is_index) .none kV_is_index dc_is_index pm_is_index an_is_index cd_is_index ct_is_index), sl_is_index⟩)
    (x3_is_index : PySem.W.codeIn K cd_is_index "is_index" = true) (x4_is_index : PySem.W.keepIn K (.ref f_is_index) = true)
    {f_copied : Addr} {od_copied an_copied : Option Addr} {sl_copied : Array (Option Value)} {oc_copied kV_copied dc_copied pm_copied cd_copied ct_copied : Value}
    (x1_copied : PySem.W.nsIn K mainGlobals "copied" = some (some (.ref f_copied)))
    (x2_copied : K.lookup f_copied = some ⟨oc_copied, od_copied, .func (PySem.W.fnOf "copied" "copied" (defArgs s_copied) (defBody s_copied) (defScope s_copied) .none kV_copied dc_copied pm_copied an_copied cd_copied ct_copied), sl_copied⟩)
    (x3_copied : PySem.W.codeIn K cd_copied "copied" = true) (x4_copied : PySem.W.keepIn K (.ref f_copied) = true)
    {f_is_bounds : Addr} {od_is_bounds an_is_bounds : Option Addr} {sl_is_bounds : Array (Option Value)} {oc_is_bounds kV_is_bounds dc_is_bounds pm_is_bounds cd_is_bounds ct_is_bounds : Value}
    (x1_is_bounds : PySem.W.nsIn K mainGlobals "is_bounds" = some (some (.ref f_is_bounds)))
    (x2_is_bounds : K.lookup f_is_bounds = some ⟨oc_is_bounds, od_is_bounds, .func (PySem.W.fnOf "is_bounds" "is_bounds" (defArgs s_is_bounds) (defBody s_is_bounds) (defScope s_is_bounds) .none kV_is_bounds dc_is_bounds pm_is_bounds an_is_bounds cd_is_bounds ct_is_bounds), sl_is_bounds⟩)
    (x3_is_bounds : PySem.W.codeIn K cd_is_bounds "is_bounds" = true) (x4_is_bounds : PySem.W.keepIn K (.ref f_is_bounds) = true)
    {f_is_moment : Addr} {od_is_moment an_is_moment : Option Addr} {sl_is_moment : Array (Option Value)} {oc_is_moment kV_is_moment dc_is_moment pm_is_moment cd_is_moment ct_is_moment : Value}
    (x1_is_moment : PySem.W.nsIn K mainGlobals "is_moment" = some (some (.ref f_is_moment)))
    (x2_is_moment : K.lookup f_is_moment = some ⟨oc_is_moment, od_is_moment, .func (PySem.W.fnOf "is_moment" "is_moment" (defArgs s_is_moment) (defBody s_is_moment) (defScope s_is_moment) .none kV_is_moment dc_is_moment pm_is_moment an_is_moment cd_is_moment ct_is_moment), sl_is_moment⟩)
    (x3_is_moment : PySem.W.codeIn K cd_is_moment "is_moment" = true) (x4_is_moment : PySem.W.keepIn K (.ref f_is_moment) = true)
    {f_is_wish : Addr} {od_is_wish an_is_wish : Option Addr} {sl_is_wish : Array (Option Value)} {oc_is_wish kV_is_wish dc_is_wish pm_is_wish cd_is_wish ct_is_wish : Value}
    (x1_is_wish : PySem.W.nsIn K mainGlobals "is_wish" = some (some (.ref f_is_wish)))
    (x2_is_wish : K.lookup f_is_wish = some ⟨oc_is_wish, od_is_wish, .func (PySem.W.fnOf "is_wish" "is_wish" (defArgs s_is_wish) (defBody s_is_wish) (defScope s_is_wish) .none kV_is_wish dc_is_wish pm_is_wish an_is_wish cd_is_wish ct_is_wish), sl_is_wish⟩)
    (x3_is_wish : PySem.W.codeIn K cd_is_wish "is_wish" = true) (x4_is_wish : PySem.W.keepIn K (.ref f_is_wish) = true)
    {f_is_station : Addr} {od_is_station an_is_station : Option Addr} {sl_is_station : Array (Option Value)} {oc_is_station kV_is_station dc_is_station pm_is_station cd_is_station ct_is_station : Value}
    (x1_is_station : PySem.W.nsIn K mainGlobals "is_station" = some (some (.ref f_is_station)))
    (x2_is_station : K.lookup f_is_station = some ⟨oc_is_station, od_is_station, .func (PySem.W.fnOf "is_station" "is_station" (defArgs s_is_station) (defBody s_is_station) (defScope s_is_station) .none kV_is_station dc_is_station pm_is_station an_is_station cd_is_station ct_is_station), sl_is_station⟩)
    (x3_is_station : PySem.W.codeIn K cd_is_station "is_station" = true) (x4_is_station : PySem.W.keepIn K (.ref f_is_station) = true)
    {f_as_moment : Addr} {od_as_moment an_as_moment : Option Addr} {sl_as_moment : Array (Option Value)} {oc_as_moment kV_as_moment dc_as_moment pm_as_moment cd_as_moment ct_as_moment : Value}
    (x1_as_moment : PySem.W.nsIn K mainGlobals "as_moment" = some (some (.ref f_as_moment)))
    (x2_as_moment : K.lookup f_as_moment = some ⟨oc_as_moment, od_as_moment, .func (PySem.W.fnOf "as_moment" "as_moment" (defArgs s_as_moment) (defBody s_as_moment) (defScope s_as_moment) .none kV_as_moment dc_as_moment pm_as_moment an_as_moment cd_as_moment ct_as_moment), sl_as_moment⟩)
    (x3_as_moment : PySem.W.codeIn K cd_as_moment "as_moment" = true) (x4_as_moment : PySem.W.keepIn K (.ref f_as_moment) = true)
    {f_as_wish : Addr} {od_as_wish an_as_wish : Option Addr} {sl_as_wish : Array (Option Value)} {oc_as_wish kV_as_wish dc_as_wish pm_as_wish cd_as_wish ct_as_wish : Value}
    (x1_as_wish : PySem.W.nsIn K mainGlobals "as_wish" = some (some (.ref f_as_wish)))
    (x2_as_wish : K.lookup f_as_wish = some ⟨oc_as_wish, od_as_wish, .func (PySem.W.fnOf "as_wish" "as_wish" (defArgs s_as_wish) (defBody s_as_wish) (defScope s_as_wish) .none kV_as_wish dc_as_wish pm_as_wish an_as_wish cd_as_wish ct_as_wish), sl_as_wish⟩)
    (x3_as_wish : PySem.W.codeIn K cd_as_wish "as_wish" = true) (x4_as_wish : PySem.W.keepIn K (.ref f_as_wish) = true)
    {f_check_dish : Addr} {od_check_dish an_check_dish : Option Addr} {sl_check_dish : Array (Option Value)} {oc_check_dish kV_check_dish dc_check_dish pm_check_dish cd_check_dish ct_check_dish : Value}
    (x1_check_dish : PySem.W.nsIn K mainGlobals "check_dish" = some (some (.ref f_check_dish)))
    (x2_check_dish : K.lookup f_check_dish = some ⟨oc_check_dish, od_check_dish, .func (PySem.W.fnOf "check_dish" "check_dish" (defArgs s_check_dish) (defBody s_check_dish) (defScope s_check_dish) .none kV_check_dish dc_check_dish pm_check_dish an_check_dish cd_check_dish ct_check_dish), sl_check_dish⟩)
    (x3_check_dish : PySem.W.codeIn K cd_check_dish "check_dish" = true) (x4_check_dish : PySem.W.keepIn K (.ref f_check_dish) = true)
    {f_NoWish___init__ : Addr} {od_NoWish___init__ an_NoWish___init__ : Option Addr} {sl_NoWish___init__ : Array (Option Value)} {oc_NoWish___init__ kV_NoWish___init__ dc_NoWish___init__ pm_NoWish___init__ cd_NoWish___init__ ct_NoWish___init__ : Value}
    (x1_NoWish___init__ : PySem.W.findIn K (.ref c_NoWish) "__init__" = some (some (.ref f_NoWish___init__))) (x5_NoWish___init__ : PySem.W.isFn K (.ref f_NoWish___init__) = true)
    (x2_NoWish___init__ : K.lookup f_NoWish___init__ = some ⟨oc_NoWish___init__, od_NoWish___init__, .func (PySem.W.fnOf "__init__" "NoWish.__init__" (defArgs s_NoWish___init__) (defBody s_NoWish___init__) (defScope s_NoWish___init__) .none kV_NoWish___init__ dc_NoWish___init__ pm_NoWish___init__ an_NoWish___init__ cd_NoWish___init__ ct_NoWish___init__), sl_NoWish___init__⟩)
    (x3_NoWish___init__ : PySem.W.codeIn K cd_NoWish___init__ "NoWish.__init__" = true) (x4_NoWish___init__ : PySem.W.keepIn K (.ref f_NoWish___init__) = true)
    {f_Clash___init__ : Addr} {od_Clash___init__ an_Clash___init__ : Option Addr} {sl_Clash___init__ : Array (Option Value)} {oc_Clash___init__ kV_Clash___init__ dc_Clash___init__ pm_Clash___init__ cd_Clash___init__ ct_Clash___init__ : Value}
    (x1_Clash___init__ : PySem.W.findIn K (.ref c_Clash) "__init__" = some (some (.ref f_Clash___init__))) (x5_Clash___init__ : PySem.W.isFn K (.ref f_Clash___init__) = true)
    (x2_Clash___init__ : K.lookup f_Clash___init__ = some ⟨oc_Clash___init__, od_Clash___init__, .func (PySem.W.fnOf "__init__" "Clash.__init__" (defArgs s_Clash___init__) (defBody s_Clash___init__) (defScope s_Clash___init__) .none kV_Clash___init__ dc_Clash___init__ pm_Clash___init__ an_Clash___init__ cd_Clash___init__ ct_Clash___init__), sl_Clash___init__⟩)
    (x3_Clash___init__ : PySem.W.codeIn K cd_Clash___init__ "Clash.__init__" = true) (x4_Clash___init__ : PySem.W.keepIn K (.ref f_Clash___init__) = true)
    {f_Meal___init__ : Addr} {od_Meal___init__ an_Meal___init__ : Option Addr} {sl_Meal___init__ : Array (Option Value)} {oc_Meal___init__ kV_Meal___init__ dc_Meal___init__ pm_Meal___init__ cd_Meal___init__ ct_Meal___init__ : Value} {T_Meal___init__ : Addr}
    (x1_Meal___init__ : PySem.W.findIn K (.ref c_Meal) "__init__" = some (some (.ref f_Meal___init__))) (x5_Meal___init__ : PySem.W.isFn K (.ref f_Meal___init__) = true)
    (x2_Meal___init__ : K.lookup f_Meal___init__ = some ⟨oc_Meal___init__, od_Meal___init__, .func (PySem.W.fnOf "__init__" "Meal.__init__" (defArgs s_Meal___init__) (defBody s_Meal___init__) (defScope s_Meal___init__) (.ref T_Meal___init__) kV_Meal___init__ dc_Meal___init__ pm_Meal___init__ an_Meal___init__ cd_Meal___init__ ct_Meal___init__), sl_Meal___init__⟩)
    (x3_Meal___init__ : PySem.W.codeIn K cd_Meal___init__ "Meal.__init__" = true) (x4_Meal___init__ : PySem.W.keepIn K (.ref f_Meal___init__) = true)
    {f_Meal_dishes : Addr} {od_Meal_dishes an_Meal_dishes : Option Addr} {sl_Meal_dishes : Array (Option Value)} {oc_Meal_dishes kV_Meal_dishes dc_Meal_dishes pm_Meal_dishes cd_Meal_dishes ct_Meal_dishes : Value}
    (x1_Meal_dishes : PySem.W.findIn K (.ref c_Meal) "dishes" = some (some (.ref f_Meal_dishes))) (x5_Meal_dishes : PySem.W.isFn K (.ref f_Meal_dishes) = true)
    (x2_Meal_dishes : K.lookup f_Meal_dishes = some ⟨oc_Meal_dishes, od_Meal_dishes, .func (PySem.W.fnOf "dishes" "Meal.dishes" (defArgs s_Meal_dishes) (defBody s_Meal_dishes) (defScope s_Meal_dishes) .none kV_Meal_dishes dc_Meal_dishes pm_Meal_dishes an_Meal_dishes cd_Meal_dishes ct_Meal_dishes), sl_Meal_dishes⟩)
    (x3_Meal_dishes : PySem.W.codeIn K cd_Meal_dishes "Meal.dishes" = true) (x4_Meal_dishes : PySem.W.keepIn K (.ref f_Meal_dishes) = true)
    {f_Meal_wishes : Addr} {od_Meal_wishes an_Meal_wishes : Option Addr} {sl_Meal_wishes : Array (Option Value)} {oc_Meal_wishes kV_Meal_wishes dc_Meal_wishes pm_Meal_wishes cd_Meal_wishes ct_Meal_wishes : Value}
    (x1_Meal_wishes : PySem.W.findIn K (.ref c_Meal) "wishes" = some (some (.ref f_Meal_wishes))) (x5_Meal_wishes : PySem.W.isFn K (.ref f_Meal_wishes) = true)
    (x2_Meal_wishes : K.lookup f_Meal_wishes = some ⟨oc_Meal_wishes, od_Meal_wishes, .func (PySem.W.fnOf "wishes" "Meal.wishes" (defArgs s_Meal_wishes) (defBody s_Meal_wishes) (defScope s_Meal_wishes) .none kV_Meal_wishes dc_Meal_wishes pm_Meal_wishes an_Meal_wishes cd_Meal_wishes ct_Meal_wishes), sl_Meal_wishes⟩)
    (x3_Meal_wishes : PySem.W.codeIn K cd_Meal_wishes "Meal.wishes" = true) (x4_Meal_wishes : PySem.W.keepIn K (.ref f_Meal_wishes) = true)
    {f_Meal_stations : Addr} {od_Meal_stations an_Meal_stations : Option Addr} {sl_Meal_stations : Array (Option Value)} {oc_Meal_stations kV_Meal_stations dc_Meal_stations pm_Meal_stations cd_Meal_stations ct_Meal_stations : Value}
    (x1_Meal_stations : PySem.W.findIn K (.ref c_Meal) "stations" = some (some (.ref f_Meal_stations))) (x5_Meal_stations : PySem.W.isFn K (.ref f_Meal_stations) = true)
    (x2_Meal_stations : K.lookup f_Meal_stations = some ⟨oc_Meal_stations, od_Meal_stations, .func (PySem.W.fnOf "stations" "Meal.stations" (defArgs s_Meal_stations) (defBody s_Meal_stations) (defScope s_Meal_stations) .none kV_Meal_stations dc_Meal_stations pm_Meal_stations an_Meal_stations cd_Meal_stations ct_Meal_stations), sl_Meal_stations⟩)
    (x3_Meal_stations : PySem.W.codeIn K cd_Meal_stations "Meal.stations" = true) (x4_Meal_stations : PySem.W.keepIn K (.ref f_Meal_stations) = true)
    {f_Meal_more : Addr} {od_Meal_more an_Meal_more : Option Addr} {sl_Meal_more : Array (Option Value)} {oc_Meal_more kV_Meal_more dc_Meal_more pm_Meal_more cd_Meal_more ct_Meal_more : Value}
    (x1_Meal_more : PySem.W.findIn K (.ref c_Meal) "more" = some (some (.ref f_Meal_more))) (x5_Meal_more : PySem.W.isFn K (.ref f_Meal_more) = true)
    (x2_Meal_more : K.lookup f_Meal_more = some ⟨oc_Meal_more, od_Meal_more, .func (PySem.W.fnOf "more" "Meal.more" (defArgs s_Meal_more) (defBody s_Meal_more) (defScope s_Meal_more) .none kV_Meal_more dc_Meal_more pm_Meal_more an_Meal_more cd_Meal_more ct_Meal_more), sl_Meal_more⟩)
    (x3_Meal_more : PySem.W.codeIn K cd_Meal_more "Meal.more" = true) (x4_Meal_more : PySem.W.keepIn K (.ref f_Meal_more) = true)
    {f_Meal_less : Addr} {od_Meal_less an_Meal_less : Option Addr} {sl_Meal_less : Array (Option Value)} {oc_Meal_less kV_Meal_less dc_Meal_less pm_Meal_less cd_Meal_less ct_Meal_less : Value}
    (x1_Meal_less : PySem.W.findIn K (.ref c_Meal) "less" = some (some (.ref f_Meal_less))) (x5_Meal_less : PySem.W.isFn K (.ref f_Meal_less) = true)
    (x2_Meal_less : K.lookup f_Meal_less = some ⟨oc_Meal_less, od_Meal_less, .func (PySem.W.fnOf "less" "Meal.less" (defArgs s_Meal_less) (defBody s_Meal_less) (defScope s_Meal_less) .none kV_Meal_less dc_Meal_less pm_Meal_less an_Meal_less cd_Meal_less ct_Meal_less), sl_Meal_less⟩)
    (x3_Meal_less : PySem.W.codeIn K cd_Meal_less "Meal.less" = true) (x4_Meal_less : PySem.W.keepIn K (.ref f_Meal_less) = true)
    {f_Meal_taking : Addr} {od_Meal_taking an_Meal_taking : Option Addr} {sl_Meal_taking : Array (Option Value)} {oc_Meal_taking kV_Meal_taking dc_Meal_taking pm_Meal_taking cd_Meal_taking ct_Meal_taking : Value}
    (x1_Meal_taking : PySem.W.findIn K (.ref c_Meal) "taking" = some (some (.ref f_Meal_taking))) (x5_Meal_taking : PySem.W.isFn K (.ref f_Meal_taking) = true)
    (x2_Meal_taking : K.lookup f_Meal_taking = some ⟨oc_Meal_taking, od_Meal_taking, .func (PySem.W.fnOf "taking" "Meal.taking" (defArgs s_Meal_taking) (defBody s_Meal_taking) (defScope s_Meal_taking) .none kV_Meal_taking dc_Meal_taking pm_Meal_taking an_Meal_taking cd_Meal_taking ct_Meal_taking), sl_Meal_taking⟩)
    (x3_Meal_taking : PySem.W.codeIn K cd_Meal_taking "Meal.taking" = true) (x4_Meal_taking : PySem.W.keepIn K (.ref f_Meal_taking) = true)
    {f_Meal___add__ : Addr} {od_Meal___add__ an_Meal___add__ : Option Addr} {sl_Meal___add__ : Array (Option Value)} {oc_Meal___add__ kV_Meal___add__ dc_Meal___add__ pm_Meal___add__ cd_Meal___add__ ct_Meal___add__ : Value}
    (x1_Meal___add__ : PySem.W.findIn K (.ref c_Meal) "__add__" = some (some (.ref f_Meal___add__))) (x5_Meal___add__ : PySem.W.isFn K (.ref f_Meal___add__) = true)
    (x2_Meal___add__ : K.lookup f_Meal___add__ = some ⟨oc_Meal___add__, od_Meal___add__, .func (PySem.W.fnOf "__add__" "Meal.__add__" (defArgs s_Meal___add__) (defBody s_Meal___add__) (defScope s_Meal___add__) .none kV_Meal___add__ dc_Meal___add__ pm_Meal___add__ an_Meal___add__ cd_Meal___add__ ct_Meal___add__), sl_Meal___add__⟩)
    (x3_Meal___add__ : PySem.W.codeIn K cd_Meal___add__ "Meal.__add__" = true) (x4_Meal___add__ : PySem.W.keepIn K (.ref f_Meal___add__) = true)
    {f_Meal___eq__ : Addr} {od_Meal___eq__ an_Meal___eq__ : Option Addr} {sl_Meal___eq__ : Array (Option Value)} {oc_Meal___eq__ kV_Meal___eq__ dc_Meal___eq__ pm_Meal___eq__ cd_Meal___eq__ ct_Meal___eq__ : Value}
    (x1_Meal___eq__ : PySem.W.findIn K (.ref c_Meal) "__eq__" = some (some (.ref f_Meal___eq__))) (x5_Meal___eq__ : PySem.W.isFn K (.ref f_Meal___eq__) = true)
    (x2_Meal___eq__ : K.lookup f_Meal___eq__ = some ⟨oc_Meal___eq__, od_Meal___eq__, .func (PySem.W.fnOf "__eq__" "Meal.__eq__" (defArgs s_Meal___eq__) (defBody s_Meal___eq__) (defScope s_Meal___eq__) .none kV_Meal___eq__ dc_Meal___eq__ pm_Meal___eq__ an_Meal___eq__ cd_Meal___eq__ ct_Meal___eq__), sl_Meal___eq__⟩)
    (x3_Meal___eq__ : PySem.W.codeIn K cd_Meal___eq__ "Meal.__eq__" = true) (x4_Meal___eq__ : PySem.W.keepIn K (.ref f_Meal___eq__) = true)
    {f_check_dishes : Addr} {od_check_dishes an_check_dishes : Option Addr} {sl_check_dishes : Array (Option Value)} {oc_check_dishes kV_check_dishes dc_check_dishes pm_check_dishes cd_check_dishes ct_check_dishes : Value}
    (x1_check_dishes : PySem.W.nsIn K mainGlobals "check_dishes" = some (some (.ref f_check_dishes)))
    (x2_check_dishes : K.lookup f_check_dishes = some ⟨oc_check_dishes, od_check_dishes, .func (PySem.W.fnOf "check_dishes" "check_dishes" (defArgs s_check_dishes) (defBody s_check_dishes) (defScope s_check_dishes) .none kV_check_dishes dc_check_dishes pm_check_dishes an_check_dishes cd_check_dishes ct_check_dishes), sl_check_dishes⟩)
    (x3_check_dishes : PySem.W.codeIn K cd_check_dishes "check_dishes" = true) (x4_check_dishes : PySem.W.keepIn K (.ref f_check_dishes) = true)
    {f_check_wishes : Addr} {od_check_wishes an_check_wishes : Option Addr} {sl_check_wishes : Array (Option Value)} {oc_check_wishes kV_check_wishes dc_check_wishes pm_check_wishes cd_check_wishes ct_check_wishes : Value}
    (x1_check_wishes : PySem.W.nsIn K mainGlobals "check_wishes" = some (some (.ref f_check_wishes)))
    (x2_check_wishes : K.lookup f_check_wishes = some ⟨oc_check_wishes, od_check_wishes, .func (PySem.W.fnOf "check_wishes" "check_wishes" (defArgs s_check_wishes) (defBody s_check_wishes) (defScope s_check_wishes) .none kV_check_wishes dc_check_wishes pm_check_wishes an_check_wishes cd_check_wishes ct_check_wishes), sl_check_wishes⟩)
    (x3_check_wishes : PySem.W.codeIn K cd_check_wishes "check_wishes" = true) (x4_check_wishes : PySem.W.keepIn K (.ref f_check_wishes) = true)
    {f_check_stations : Addr} {od_check_stations an_check_stations : Option Addr} {sl_check_stations : Array (Option Value)} {oc_check_stations kV_check_stations dc_check_stations pm_check_stations cd_check_stations ct_check_stations : Value}
    (x1_check_stations : PySem.W.nsIn K mainGlobals "check_stations" = some (some (.ref f_check_stations)))
    (x2_check_stations : K.lookup f_check_stations = some ⟨oc_check_stations, od_check_stations, .func (PySem.W.fnOf "check_stations" "check_stations" (defArgs s_check_stations) (defBody s_check_stations) (defScope s_check_stations) .none kV_check_stations dc_check_stations pm_check_stations an_check_stations cd_check_stations ct_check_stations), sl_check_stations⟩)
    (x3_check_stations : PySem.W.codeIn K cd_check_stations "check_stations" = true) (x4_check_stations : PySem.W.keepIn K (.ref f_check_stations) = true)
    {f__law_fresh : Addr} {od__law_fresh an__law_fresh : Option Addr} {sl__law_fresh : Array (Option Value)} {oc__law_fresh kV__law_fresh dc__law_fresh pm__law_fresh cd__law_fresh ct__law_fresh : Value}
    (x1__law_fresh : PySem.W.nsIn K mainGlobals "_law_fresh" = some (some (.ref f__law_fresh)))
    (x2__law_fresh : K.lookup f__law_fresh = some ⟨oc__law_fresh, od__law_fresh, .func (PySem.W.fnOf "_law_fresh" "_law_fresh" (defArgs s__law_fresh) (defBody s__law_fresh) (defScope s__law_fresh) .none kV__law_fresh dc__law_fresh pm__law_fresh an__law_fresh cd__law_fresh ct__law_fresh), sl__law_fresh⟩)
    (x3__law_fresh : PySem.W.codeIn K cd__law_fresh "_law_fresh" = true) (x4__law_fresh : PySem.W.keepIn K (.ref f__law_fresh) = true)
    {f__law_take : Addr} {od__law_take an__law_take : Option Addr} {sl__law_take : Array (Option Value)} {oc__law_take kV__law_take dc__law_take pm__law_take cd__law_take ct__law_take : Value}
    (x1__law_take : PySem.W.nsIn K mainGlobals "_law_take" = some (some (.ref f__law_take)))
    (x2__law_take : K.lookup f__law_take = some ⟨oc__law_take, od__law_take, .func (PySem.W.fnOf "_law_take" "_law_take" (defArgs s__law_take) (defBody s__law_take) (defScope s__law_take) .none kV__law_take dc__law_take pm__law_take an__law_take cd__law_take ct__law_take), sl__law_take⟩)
    (x3__law_take : PySem.W.codeIn K cd__law_take "_law_take" = true) (x4__law_take : PySem.W.keepIn K (.ref f__law_take) = true)
    {f__law_one : Addr} {od__law_one an__law_one : Option Addr} {sl__law_one : Array (Option Value)} {oc__law_one kV__law_one dc__law_one pm__law_one cd__law_one ct__law_one : Value}
    (x1__law_one : PySem.W.nsIn K mainGlobals "_law_one" = some (some (.ref f__law_one)))
    (x2__law_one : K.lookup f__law_one = some ⟨oc__law_one, od__law_one, .func (PySem.W.fnOf "_law_one" "_law_one" (defArgs s__law_one) (defBody s__law_one) (defScope s__law_one) .none kV__law_one dc__law_one pm__law_one an__law_one cd__law_one ct__law_one), sl__law_one⟩)
    (x3__law_one : PySem.W.codeIn K cd__law_one "_law_one" = true) (x4__law_one : PySem.W.keepIn K (.ref f__law_one) = true)
    {f__law_mix : Addr} {od__law_mix an__law_mix : Option Addr} {sl__law_mix : Array (Option Value)} {oc__law_mix kV__law_mix dc__law_mix pm__law_mix cd__law_mix ct__law_mix : Value}
    (x1__law_mix : PySem.W.nsIn K mainGlobals "_law_mix" = some (some (.ref f__law_mix)))
    (x2__law_mix : K.lookup f__law_mix = some ⟨oc__law_mix, od__law_mix, .func (PySem.W.fnOf "_law_mix" "_law_mix" (defArgs s__law_mix) (defBody s__law_mix) (defScope s__law_mix) .none kV__law_mix dc__law_mix pm__law_mix an__law_mix cd__law_mix ct__law_mix), sl__law_mix⟩)
    (x3__law_mix : PySem.W.codeIn K cd__law_mix "_law_mix" = true) (x4__law_mix : PySem.W.keepIn K (.ref f__law_mix) = true)
    {f__law_some : Addr} {od__law_some an__law_some : Option Addr} {sl__law_some : Array (Option Value)} {oc__law_some kV__law_some dc__law_some pm__law_some cd__law_some ct__law_some : Value}
    (x1__law_some : PySem.W.nsIn K mainGlobals "_law_some" = some (some (.ref f__law_some)))
    (x2__law_some : K.lookup f__law_some = some ⟨oc__law_some, od__law_some, .func (PySem.W.fnOf "_law_some" "_law_some" (defArgs s__law_some) (defBody s__law_some) (defScope s__law_some) .none kV__law_some dc__law_some pm__law_some an__law_some cd__law_some ct__law_some), sl__law_some⟩)
    (x3__law_some : PySem.W.codeIn K cd__law_some "_law_some" = true) (x4__law_some : PySem.W.keepIn K (.ref f__law_some) = true)
    {f__law_same : Addr} {od__law_same an__law_same : Option Addr} {sl__law_same : Array (Option Value)} {oc__law_same kV__law_same dc__law_same pm__law_same cd__law_same ct__law_same : Value}
    (x1__law_same : PySem.W.nsIn K mainGlobals "_law_same" = some (some (.ref f__law_same)))
    (x2__law_same : K.lookup f__law_same = some ⟨oc__law_same, od__law_same, .func (PySem.W.fnOf "_law_same" "_law_same" (defArgs s__law_same) (defBody s__law_same) (defScope s__law_same) .none kV__law_same dc__law_same pm__law_same an__law_same cd__law_same ct__law_same), sl__law_same⟩)
    (x3__law_same : PySem.W.codeIn K cd__law_same "_law_same" = true) (x4__law_same : PySem.W.keepIn K (.ref f__law_same) = true)
    {f__law_same_dict : Addr} {od__law_same_dict an__law_same_dict : Option Addr} {sl__law_same_dict : Array (Option Value)} {oc__law_same_dict kV__law_same_dict dc__law_same_dict pm__law_same_dict cd__law_same_dict ct__law_same_dict : Value}
    (x1__law_same_dict : PySem.W.nsIn K mainGlobals "_law_same_dict" = some (some (.ref f__law_same_dict)))
    (x2__law_same_dict : K.lookup f__law_same_dict = some ⟨oc__law_same_dict, od__law_same_dict, .func (PySem.W.fnOf "_law_same_dict" "_law_same_dict" (defArgs s__law_same_dict) (defBody s__law_same_dict) (defScope s__law_same_dict) .none kV__law_same_dict dc__law_same_dict pm__law_same_dict an__law_same_dict cd__law_same_dict ct__law_same_dict), sl__law_same_dict⟩)
    (x3__law_same_dict : PySem.W.codeIn K cd__law_same_dict "_law_same_dict" = true) (x4__law_same_dict : PySem.W.keepIn K (.ref f__law_same_dict) = true)
    {f__law_loose : Addr} {od__law_loose an__law_loose : Option Addr} {sl__law_loose : Array (Option Value)} {oc__law_loose kV__law_loose dc__law_loose pm__law_loose cd__law_loose ct__law_loose : Value}
    (x1__law_loose : PySem.W.nsIn K mainGlobals "_law_loose" = some (some (.ref f__law_loose)))
    (x2__law_loose : K.lookup f__law_loose = some ⟨oc__law_loose, od__law_loose, .func (PySem.W.fnOf "_law_loose" "_law_loose" (defArgs s__law_loose) (defBody s__law_loose) (defScope s__law_loose) .none kV__law_loose dc__law_loose pm__law_loose an__law_loose cd__law_loose ct__law_loose), sl__law_loose⟩)
    (x3__law_loose : PySem.W.codeIn K cd__law_loose "_law_loose" = true) (x4__law_loose : PySem.W.keepIn K (.ref f__law_loose) = true)
    {f__law_names : Addr} {od__law_names an__law_names : Option Addr} {sl__law_names : Array (Option Value)} {oc__law_names kV__law_names dc__law_names pm__law_names cd__law_names ct__law_names : Value}
    (x1__law_names : PySem.W.nsIn K mainGlobals "_law_names" = some (some (.ref f__law_names)))
    (x2__law_names : K.lookup f__law_names = some ⟨oc__law_names, od__law_names, .func (PySem.W.fnOf "_law_names" "_law_names" (defArgs s__law_names) (defBody s__law_names) (defScope s__law_names) .none kV__law_names dc__law_names pm__law_names an__law_names cd__law_names ct__law_names), sl__law_names⟩)
    (x3__law_names : PySem.W.codeIn K cd__law_names "_law_names" = true) (x4__law_names : PySem.W.keepIn K (.ref f__law_names) = true)
    {f__law_rising : Addr} {od__law_rising an__law_rising : Option Addr} {sl__law_rising : Array (Option Value)} {oc__law_rising kV__law_rising dc__law_rising pm__law_rising cd__law_rising ct__law_rising : Value}
    (x1__law_rising : PySem.W.nsIn K mainGlobals "_law_rising" = some (some (.ref f__law_rising)))
    (x2__law_rising : K.lookup f__law_rising = some ⟨oc__law_rising, od__law_rising, .func (PySem.W.fnOf "_law_rising" "_law_rising" (defArgs s__law_rising) (defBody s__law_rising) (defScope s__law_rising) .none kV__law_rising dc__law_rising pm__law_rising an__law_rising cd__law_rising ct__law_rising), sl__law_rising⟩)
    (x3__law_rising : PySem.W.codeIn K cd__law_rising "_law_rising" = true) (x4__law_rising : PySem.W.keepIn K (.ref f__law_rising) = true)
    {f__law_dishes : Addr} {od__law_dishes an__law_dishes : Option Addr} {sl__law_dishes : Array (Option Value)} {oc__law_dishes kV__law_dishes dc__law_dishes pm__law_dishes cd__law_dishes ct__law_dishes : Value}
    (x1__law_dishes : PySem.W.nsIn K mainGlobals "_law_dishes" = some (some (.ref f__law_dishes)))
    (x2__law_dishes : K.lookup f__law_dishes = some ⟨oc__law_dishes, od__law_dishes, .func (PySem.W.fnOf "_law_dishes" "_law_dishes" (defArgs s__law_dishes) (defBody s__law_dishes) (defScope s__law_dishes) .none kV__law_dishes dc__law_dishes pm__law_dishes an__law_dishes cd__law_dishes ct__law_dishes), sl__law_dishes⟩)
    (x3__law_dishes : PySem.W.codeIn K cd__law_dishes "_law_dishes" = true) (x4__law_dishes : PySem.W.keepIn K (.ref f__law_dishes) = true)
    {f__law_moment : Addr} {od__law_moment an__law_moment : Option Addr} {sl__law_moment : Array (Option Value)} {oc__law_moment kV__law_moment dc__law_moment pm__law_moment cd__law_moment ct__law_moment : Value}
    (x1__law_moment : PySem.W.nsIn K mainGlobals "_law_moment" = some (some (.ref f__law_moment)))
    (x2__law_moment : K.lookup f__law_moment = some ⟨oc__law_moment, od__law_moment, .func (PySem.W.fnOf "_law_moment" "_law_moment" (defArgs s__law_moment) (defBody s__law_moment) (defScope s__law_moment) .none kV__law_moment dc__law_moment pm__law_moment an__law_moment cd__law_moment ct__law_moment), sl__law_moment⟩)
    (x3__law_moment : PySem.W.codeIn K cd__law_moment "_law_moment" = true) (x4__law_moment : PySem.W.keepIn K (.ref f__law_moment) = true)
    {f__law_wishes : Addr} {od__law_wishes an__law_wishes : Option Addr} {sl__law_wishes : Array (Option Value)} {oc__law_wishes kV__law_wishes dc__law_wishes pm__law_wishes cd__law_wishes ct__law_wishes : Value}
    (x1__law_wishes : PySem.W.nsIn K mainGlobals "_law_wishes" = some (some (.ref f__law_wishes)))
    (x2__law_wishes : K.lookup f__law_wishes = some ⟨oc__law_wishes, od__law_wishes, .func (PySem.W.fnOf "_law_wishes" "_law_wishes" (defArgs s__law_wishes) (defBody s__law_wishes) (defScope s__law_wishes) .none kV__law_wishes dc__law_wishes pm__law_wishes an__law_wishes cd__law_wishes ct__law_wishes), sl__law_wishes⟩)
    (x3__law_wishes : PySem.W.codeIn K cd__law_wishes "_law_wishes" = true) (x4__law_wishes : PySem.W.keepIn K (.ref f__law_wishes) = true)
    {f__law_with : Addr} {od__law_with an__law_with : Option Addr} {sl__law_with : Array (Option Value)} {oc__law_with kV__law_with dc__law_with pm__law_with cd__law_with ct__law_with : Value}
    (x1__law_with : PySem.W.nsIn K mainGlobals "_law_with" = some (some (.ref f__law_with)))
    (x2__law_with : K.lookup f__law_with = some ⟨oc__law_with, od__law_with, .func (PySem.W.fnOf "_law_with" "_law_with" (defArgs s__law_with) (defBody s__law_with) (defScope s__law_with) .none kV__law_with dc__law_with pm__law_with an__law_with cd__law_with ct__law_with), sl__law_with⟩)
    (x3__law_with : PySem.W.codeIn K cd__law_with "_law_with" = true) (x4__law_with : PySem.W.keepIn K (.ref f__law_with) = true)
    {f__law_stations : Addr} {od__law_stations an__law_stations : Option Addr} {sl__law_stations : Array (Option Value)} {oc__law_stations kV__law_stations dc__law_stations pm__law_stations cd__law_stations ct__law_stations : Value}
    (x1__law_stations : PySem.W.nsIn K mainGlobals "_law_stations" = some (some (.ref f__law_stations)))
    (x2__law_stations : K.lookup f__law_stations = some ⟨oc__law_stations, od__law_stations, .func (PySem.W.fnOf "_law_stations" "_law_stations" (defArgs s__law_stations) (defBody s__law_stations) (defScope s__law_stations) .none kV__law_stations dc__law_stations pm__law_stations an__law_stations cd__law_stations ct__law_stations), sl__law_stations⟩)
    (x3__law_stations : PySem.W.codeIn K cd__law_stations "_law_stations" = true) (x4__law_stations : PySem.W.keepIn K (.ref f__law_stations) = true)
    {f__law_tried : Addr} {od__law_tried an__law_tried : Option Addr} {sl__law_tried : Array (Option Value)} {oc__law_tried kV__law_tried dc__law_tried pm__law_tried cd__law_tried ct__law_tried : Value}
    (x1__law_tried : PySem.W.nsIn K mainGlobals "_law_tried" = some (some (.ref f__law_tried)))
    (x2__law_tried : K.lookup f__law_tried = some ⟨oc__law_tried, od__law_tried, .func (PySem.W.fnOf "_law_tried" "_law_tried" (defArgs s__law_tried) (defBody s__law_tried) (defScope s__law_tried) .none kV__law_tried dc__law_tried pm__law_tried an__law_tried cd__law_tried ct__law_tried), sl__law_tried⟩)
    (x3__law_tried : PySem.W.codeIn K cd__law_tried "_law_tried" = true) (x4__law_tried : PySem.W.keepIn K (.ref f__law_tried) = true)
    {f__law_is_meal : Addr} {od__law_is_meal an__law_is_meal : Option Addr} {sl__law_is_meal : Array (Option Value)} {oc__law_is_meal kV__law_is_meal dc__law_is_meal pm__law_is_meal cd__law_is_meal ct__law_is_meal : Value}
    (x1__law_is_meal : PySem.W.nsIn K mainGlobals "_law_is_meal" = some (some (.ref f__law_is_meal)))
    (x2__law_is_meal : K.lookup f__law_is_meal = some ⟨oc__law_is_meal, od__law_is_meal, .func (PySem.W.fnOf "_law_is_meal" "_law_is_meal" (defArgs s__law_is_meal) (defBody s__law_is_meal) (defScope s__law_is_meal) .none kV__law_is_meal dc__law_is_meal pm__law_is_meal an__law_is_meal cd__law_is_meal ct__law_is_meal), sl__law_is_meal⟩)
    (x3__law_is_meal : PySem.W.codeIn K cd__law_is_meal "_law_is_meal" = true) (x4__law_is_meal : PySem.W.keepIn K (.ref f__law_is_meal) = true)
    {f__law_are_joined : Addr} {od__law_are_joined an__law_are_joined : Option Addr} {sl__law_are_joined : Array (Option Value)} {oc__law_are_joined kV__law_are_joined dc__law_are_joined pm__law_are_joined cd__law_are_joined ct__law_are_joined : Value}
    (x1__law_are_joined : PySem.W.nsIn K mainGlobals "_law_are_joined" = some (some (.ref f__law_are_joined)))
    (x2__law_are_joined : K.lookup f__law_are_joined = some ⟨oc__law_are_joined, od__law_are_joined, .func (PySem.W.fnOf "_law_are_joined" "_law_are_joined" (defArgs s__law_are_joined) (defBody s__law_are_joined) (defScope s__law_are_joined) .none kV__law_are_joined dc__law_are_joined pm__law_are_joined an__law_are_joined (.ref cJ) ct__law_are_joined), sl__law_are_joined⟩)
    (x3__law_are_joined : PySem.W.codeIn K (.ref cJ) "_law_are_joined" = true) (x4__law_are_joined : PySem.W.keepIn K (.ref f__law_are_joined) = true)
    {f_law : Addr} {od_law an_law : Option Addr} {sl_law : Array (Option Value)} {oc_law kV_law dc_law pm_law cd_law ct_law : Value}
    (x1_law : PySem.W.nsIn K mainGlobals "law" = some (some (.ref f_law)))
    (x2_law : K.lookup f_law = some ⟨oc_law, od_law, .func (PySem.W.fnOf "law" "law" (defArgs s_law) (defBody s_law) (defScope s_law) .none kV_law dc_law pm_law an_law (.ref cL) ct_law), sl_law⟩)
    (x3_law : PySem.W.codeIn K (.ref cL) "law" = true) (x4_law : PySem.W.keepIn K (.ref f_law) = true)
    {t_CLOCK : Tok} (x1_CLOCK : PySem.W.nsIn K mainGlobals "CLOCK" = some (some (.str "clock" t_CLOCK)))
    {t_LETTERS : Tok} (x1_LETTERS : PySem.W.nsIn K mainGlobals "LETTERS" = some (some (.str "abcdefghijklmnopqrstuvwxyz" t_LETTERS)))
    {t_LONGEST_NAME : Tok} (x1_LONGEST_NAME : PySem.W.nsIn K mainGlobals "LONGEST_NAME" = some (some (.int 8 t_LONGEST_NAME)))
    (x1_len : PySem.W.nsIn K mainGlobals "len" = some none)
    (x1_abs : PySem.W.nsIn K mainGlobals "abs" = some none)
    (x1_int : PySem.W.nsIn K mainGlobals "int" = some none)
    (x1_list : PySem.W.nsIn K mainGlobals "list" = some none)
    (x1_tuple : PySem.W.nsIn K mainGlobals "tuple" = some none)
    (x1_bool : PySem.W.nsIn K mainGlobals "bool" = some none)
    (x1_str : PySem.W.nsIn K mainGlobals "str" = some none)
    (x1_dict : PySem.W.nsIn K mainGlobals "dict" = some none)
    (x1_isinstance : PySem.W.nsIn K mainGlobals "isinstance" = some none)
    (x1_all : PySem.W.nsIn K mainGlobals "all" = some none)
    (x1_any : PySem.W.nsIn K mainGlobals "any" = some none)
    (x1_zip : PySem.W.nsIn K mainGlobals "zip" = some none)
    (x1_enumerate : PySem.W.nsIn K mainGlobals "enumerate" = some none)
    (x1_range : PySem.W.nsIn K mainGlobals "range" = some none)
    (x1_sorted : PySem.W.nsIn K mainGlobals "sorted" = some none)
    (x1_set : PySem.W.nsIn K mainGlobals "set" = some none)
    (nPP : P1 ≠ P2)
    {E0 S0 W0 : Addr} {odT odS odE odW : Option Addr} {ocT : Value} {nT nS nE nW : Nat} {slT slS slE slW : Array (Option Value)} {tE1 tE2 : Tok}
    (xT : K.lookup T_Meal___init__ = some ⟨ocT, odT, .seq #[.ref W0, .ref S0] nT, slT⟩)
    (xS : K.lookup S0 = some ⟨.type "tuple", odS, .seq #[] nS, slS⟩)
    (xW : K.lookup W0 = some ⟨.type "tuple", odW, .seq #[] nW, slW⟩)
    (xE1 : PySem.W.nsIn K mainGlobals "EDGES" = some (some (.ref E0)))
    (xE2 : K.lookup E0 = some ⟨.type "tuple", odE, .seq #[.str "start" tE1, .str "done" tE2] nE, slE⟩)
    (u1 : PySem.W.findIn K (.ref c_Meal) "__class__" = some (some (.builtin "object.__class__")))
    (u2 : PySem.W.specialIn K (.builtin "object.__class__") "__get__" = some (some (.builtin "getset_descriptor.__get__")))
    (u3 : PySem.W.takesIn K (.builtin "object.__class__") = some true)
    (u4 : PySem.W.notFirst K c_Meal (.ref c_Meal) = true)
    (u5 : PySem.W.kitOne K (.ref c_Meal) (.ref c_Meal) = some true)
    (u6 : PySem.W.findIn K (.ref c_Meal) "__ne__" = some (some (.builtin "object.__ne__")))
    (u7 : PySem.W.mroIn K c_Meal (.type "object") = some true)
    (u8 : PySem.W.kitOne K (.ref c_Meal) (.type "list") = some false)
    (u9 : PySem.W.kitOne K (.ref c_Meal) (.type "tuple") = some false)
    (u10 : PySem.W.kitOne K (.ref c_Meal) (.type "int") = some false)
    (u11 : PySem.W.selfFirst K c_Meal = true)
    (u12 : PySem.W.typeIn K (.ref f_NoWish___init__) = some (.type "function"))
    (u13 : PySem.W.typeIn K (.ref f_Clash___init__) = some (.type "function"))
    (u14 : PySem.W.exmOne K (.ref c_NoWish) (.ref c_NoWish) = some true)
    (u15 : PySem.W.exmOne K (.ref c_Clash) (.ref c_NoWish) = some false)
    (u16 : PySem.W.exmOne K (.ref c_Clash) (.ref c_Clash) = some true)
    (u17 : PySem.W.kitOne K (.type "NoneType") (.ref c_Meal) = some false)
    (u18 : PySem.W.kitOne K (.type "int") (.ref c_Meal) = some false)
    (u19 : PySem.W.kitOne K (.type "dict") (.ref c_Meal) = some false)
    : ∃ fd : FuncData, (∀ (s : Shared) (v : Value), BindsTo s fd ⟨[v], []⟩ [("_law_script", v)]) ∧ ∀ base : Heap, K.In base → base.Ns mainGlobals mg → LamX.TabB base mg cL P1 → LamX.TabB base mg cJ P2 → FnOk l.prog w K mg base CX0 12 fa fd ["_law_script"] (spLawT K P1 P2) := by
  have e := hfa.symm.trans (PySem.W.mg_of X G x1_law)
  cases e
  have F_is_integer := fun_mk (st := s_is_integer) x2_is_integer x3_is_integer x4_is_integer
  have F_is_list := fun_mk (st := s_is_list) x2_is_list x3_is_list x4_is_list
  have F_is_name := fun_mk (st := s_is_name) x2_is_name x3_is_name x4_is_name
  have F_is_dish := fun_mk (st := s_is_dish) x2_is_dish x3_is_dish x4_is_dish
  have F_is_index := fun_mk (st := s_is_index) x2_is_index x3_is_index x4_is_index
  have F_copied := fun_mk (st := s_copied) x2_copied x3_copied x4_copied
  have F_is_bounds := fun_mk (st := s_is_bounds) x2_is_bounds x3_is_bounds x4_is_bounds
  have F_is_moment := fun_mk (st := s_is_moment) x2_is_moment x3_is_moment x4_is_moment
  have F_is_wish := fun_mk (st := s_is_wish) x2_is_wish x3_is_wish x4_is_wish
  have F_is_station := fun_mk (st := s_is_station) x2_is_station x3_is_station x4_is_station
  have F_as_moment := fun_mk (st := s_as_moment) x2_as_moment x3_as_moment x4_as_moment
  have F_as_wish := fun_mk (st := s_as_wish) x2_as_wish x3_as_wish x4_as_wish
  have F_check_dish := fun_mk (st := s_check_dish) x2_check_dish x3_check_dish x4_check_dish
  have F_NoWish___init__ := fun_mk (st := s_NoWish___init__) x2_NoWish___init__ x3_NoWish___init__ x4_NoWish___init__
  have F_Clash___init__ := fun_mk (st := s_Clash___init__) x2_Clash___init__ x3_Clash___init__ x4_Clash___init__
  have F_Meal_dishes := fun_mk (st := s_Meal_dishes) x2_Meal_dishes x3_Meal_dishes x4_Meal_dishes
  have F_Meal_wishes := fun_mk (st := s_Meal_wishes) x2_Meal_wishes x3_Meal_wishes x4_Meal_wishes
  have F_Meal_stations := fun_mk (st := s_Meal_stations) x2_Meal_stations x3_Meal_stations x4_Meal_stations
  have F_Meal_more := fun_mk (st := s_Meal_more) x2_Meal_more x3_Meal_more x4_Meal_more
  have F_Meal_less := fun_mk (st := s_Meal_less) x2_Meal_less x3_Meal_less x4_Meal_less
  have F_Meal_taking := fun_mk (st := s_Meal_taking) x2_Meal_taking x3_Meal_taking x4_Meal_taking
  have F_Meal___add__ := fun_mk (st := s_Meal___add__) x2_Meal___add__ x3_Meal___add__ x4_Meal___add__
  have F_Meal___eq__ := fun_mk (st := s_Meal___eq__) x2_Meal___eq__ x3_Meal___eq__ x4_Meal___eq__
  have F_check_dishes := fun_mk (st := s_check_dishes) x2_check_dishes x3_check_dishes x4_check_dishes
  have F_check_wishes := fun_mk (st := s_check_wishes) x2_check_wishes x3_check_wishes x4_check_wishes
  have F_check_stations := fun_mk (st := s_check_stations) x2_check_stations x3_check_stations x4_check_stations
  have F__law_fresh := fun_mk (st := s__law_fresh) x2__law_fresh x3__law_fresh x4__law_fresh
  have F__law_take := fun_mk (st := s__law_take) x2__law_take x3__law_take x4__law_take
  have F__law_one := fun_mk (st := s__law_one) x2__law_one x3__law_one x4__law_one
  have F__law_mix := fun_mk (st := s__law_mix) x2__law_mix x3__law_mix x4__law_mix
  have F__law_some := fun_mk (st := s__law_some) x2__law_some x3__law_some x4__law_some
  have F__law_same := fun_mk (st := s__law_same) x2__law_same x3__law_same x4__law_same
  have F__law_same_dict := fun_mk (st := s__law_same_dict) x2__law_same_dict x3__law_same_dict x4__law_same_dict
  have F__law_loose := fun_mk (st := s__law_loose) x2__law_loose x3__law_loose x4__law_loose
  have F__law_names := fun_mk (st := s__law_names) x2__law_names x3__law_names x4__law_names
  have F__law_rising := fun_mk (st := s__law_rising) x2__law_rising x3__law_rising x4__law_rising
  have F__law_dishes := fun_mk (st := s__law_dishes) x2__law_dishes x3__law_dishes x4__law_dishes
  have F__law_moment := fun_mk (st := s__law_moment) x2__law_moment x3__law_moment x4__law_moment
  have F__law_wishes := fun_mk (st := s__law_wishes) x2__law_wishes x3__law_wishes x4__law_wishes
  have F__law_with := fun_mk (st := s__law_with) x2__law_with x3__law_with x4__law_with
  have F__law_stations := fun_mk (st := s__law_stations) x2__law_stations x3__law_stations x4__law_stations
  have F__law_tried := fun_mk (st := s__law_tried) x2__law_tried x3__law_tried x4__law_tried
  have F__law_is_meal := fun_mk (st := s__law_is_meal) x2__law_is_meal x3__law_is_meal x4__law_is_meal
  have F__law_are_joined := fun_mk (st := s__law_are_joined) x2__law_are_joined x3__law_are_joined x4__law_are_joined
  have F_law := fun_mk (st := s_law) x2_law x3_law x4_law
  have F_Meal___init__ : FunD K "__init__" "Meal.__init__" (defArgs s_Meal___init__) (defBody s_Meal___init__) (defScope s_Meal___init__) [.ref W0, .ref S0] [] f_Meal___init__ (PySem.W.fnOf "__init__" "Meal.__init__" (defArgs s_Meal___init__) (defBody s_Meal___init__) (defScope s_Meal___init__) (.ref T_Meal___init__) kV_Meal___init__ dc_Meal___init__ pm_Meal___init__ an_Meal___init__ cd_Meal___init__ ct_Meal___init__) :=
    ⟨⟨_, _, _, _, _, _, _, _, _, _, rfl, x2_Meal___init__, x3_Meal___init__, .inr ⟨by simp, _, _, [.ref W0, .ref S0], nT, rfl, xT, rfl, .cons rfl (.cons rfl .nil)⟩, .inl rfl⟩, x4_Meal___init__⟩
  have T : Txt K mg ({ a_is_integer := f_is_integer, d_is_integer := (PySem.W.fnOf "is_integer" "is_integer" (defArgs s_is_integer) (defBody s_is_integer) (defScope s_is_integer) .none kV_is_integer dc_is_integer pm_is_integer an_is_integer cd_is_integer ct_is_integer), a_is_list := f_is_list, d_is_list := (PySem.W.fnOf "is_list" "is_list" (defArgs s_is_list) (defBody s_is_list) (defScope s_is_list) .none kV_is_list dc_is_list pm_is_list an_is_list cd_is_list ct_is_list), a_is_name := f_is_name, d_is_name := (PySem.W.fnOf "is_name" "is_name" (defArgs s_is_name) (defBody s_is_name) (defScope s_is_name) .none kV_is_name dc_is_name pm_is_name an_is_name cd_is_name ct_is_name), a_is_dish := f_is_dish, d_is_dish := (PySem.W.fnOf "is_dish" "is_dish" (defArgs s_is_dish) (defBody s_is_dish) (defScope s_is_dish) .none kV_is_dish dc_is_dish pm_is_dish an_is_dish cd_is_dish ct_is_dish), a_is_index := f_is_index, d_is_index := (PySem.W.fnOf "is_index" "is_index" (defArgs s_is_index) (defBody s_is_index) (defScope s_is_index) .none kV_is_index dc_is_index pm_is_index an_is_index cd_is_index ct_is_index), a_copied := f_copied, d_copied := (PySem.W.fnOf "copied" "copied" (defArgs s_copied) (defBody s_copied) (defScope s_copied) .none kV_copied dc_copied pm_copied an_copied cd_copied ct_copied), a_is_bounds := f_is_bounds, d_is_bounds := (PySem.W.fnOf "is_bounds" "is_bounds" (defArgs s_is_bounds) (defBody s_is_bounds) (defScope s_is_bounds) .none kV_is_bounds dc_is_bounds pm_is_bounds an_is_bounds cd_is_bounds ct_is_bounds), a_is_moment := f_is_moment, d_is_moment := (PySem.W.fnOf "is_moment" "is_moment" (defArgs s_is_moment) (defBody s_is_moment) (defScope s_is_moment) .none kV_is_moment dc_is_moment pm_is_moment an_is_moment cd_is_moment ct_is_moment), a_is_wish := f_is_wish, d_is_wish := (PySem.W.fnOf "is_wish" "is_wish" (defArgs s_is_wish) (defBody s_is_wish) (defScope s_is_wish) .none kV_is_wish dc_is_wish pm_is_wish an_is_wish cd_is_wish ct_is_wish), a_is_station := f_is_station, d_is_station := (PySem.W.fnOf "is_station" "is_station" (defArgs s_is_station) (defBody s_is_station) (defScope s_is_station) .none kV_is_station dc_is_station pm_is_station an_is_station cd_is_station ct_is_station), a_as_moment := f_as_moment, d_as_moment := (PySem.W.fnOf "as_moment" "as_moment" (defArgs s_as_moment) (defBody s_as_moment) (defScope s_as_moment) .none kV_as_moment dc_as_moment pm_as_moment an_as_moment cd_as_moment ct_as_moment), a_as_wish := f_as_wish, d_as_wish := (PySem.W.fnOf "as_wish" "as_wish" (defArgs s_as_wish) (defBody s_as_wish) (defScope s_as_wish) .none kV_as_wish dc_as_wish pm_as_wish an_as_wish cd_as_wish ct_as_wish), a_check_dish := f_check_dish, d_check_dish := (PySem.W.fnOf "check_dish" "check_dish" (defArgs s_check_dish) (defBody s_check_dish) (defScope s_check_dish) .none kV_check_dish dc_check_dish pm_check_dish an_check_dish cd_check_dish ct_check_dish), a_NoWish___init__ := f_NoWish___init__, d_NoWish___init__ := (PySem.W.fnOf "__init__" "NoWish.__init__" (defArgs s_NoWish___init__) (defBody s_NoWish___init__) (defScope s_NoWish___init__) .none kV_NoWish___init__ dc_NoWish___init__ pm_NoWish___init__ an_NoWish___init__ cd_NoWish___init__ ct_NoWish___init__), a_Clash___init__ := f_Clash___init__, d_Clash___init__ := (PySem.W.fnOf "__init__" "Clash.__init__" (defArgs s_Clash___init__) (defBody s_Clash___init__) (defScope s_Clash___init__) .none kV_Clash___init__ dc_Clash___init__ pm_Clash___init__ an_Clash___init__ cd_Clash___init__ ct_Clash___init__), a_Meal___init__ := f_Meal___init__, d_Meal___init__ := (PySem.W.fnOf "__init__" "Meal.__init__" (defArgs s_Meal___init__) (defBody s_Meal___init__) (defScope s_Meal___init__) (.ref T_Meal___init__) kV_Meal___init__ dc_Meal___init__ pm_Meal___init__ an_Meal___init__ cd_Meal___init__ ct_Meal___init__), a_Meal_dishes := f_Meal_dishes, d_Meal_dishes := (PySem.W.fnOf "dishes" "Meal.dishes" (defArgs s_Meal_dishes) (defBody s_Meal_dishes) (defScope s_Meal_dishes) .none kV_Meal_dishes dc_Meal_dishes pm_Meal_dishes an_Meal_dishes cd_Meal_dishes ct_Meal_dishes), a_Meal_wishes := f_Meal_wishes, d_Meal_wishes := (PySem.W.fnOf "wishes" "Meal.wishes" (defArgs s_Meal_wishes) (defBody s_Meal_wishes) (defScope s_Meal_wishes) .none kV_Meal_wishes dc_Meal_wishes pm_Meal_wishes an_Meal_wishes cd_Meal_wishes ct_Meal_wishes), a_Meal_stations := f_Meal_stations, d_Meal_stations := (PySem.W.fnOf "stations" "Meal.stations" (defArgs s_Meal_stations) (defBody s_Meal_stations) (defScope s_Meal_stations) .none kV_Meal_stations dc_Meal_stations pm_Meal_stations an_Meal_stations cd_Meal_stations ct_Meal_stations), a_Meal_more := f_Meal_more, d_Meal_more := (PySem.W.fnOf "more" "Meal.more" (defArgs s_Meal_more) (defBody s_Meal_more) (defScope s_Meal_more) .none kV_Meal_more dc_Meal_more pm_Meal_more an_Meal_more cd_Meal_more ct_Meal_more), a_Meal_less := f_Meal_less, d_Meal_less := (PySem.W.fnOf "less" "Meal.less" (defArgs s_Meal_less) (defBody s_Meal_less) (defScope s_Meal_less) .none kV_Meal_less dc_Meal_less pm_Meal_less an_Meal_less cd_Meal_less ct_Meal_less), a_Meal_taking := f_Meal_taking, d_Meal_taking := (PySem.W.fnOf "taking" "Meal.taking" (defArgs s_Meal_taking) (defBody s_Meal_taking) (defScope s_Meal_taking) .none kV_Meal_taking dc_Meal_taking pm_Meal_taking an_Meal_taking cd_Meal_taking ct_Meal_taking), a_Meal___add__ := f_Meal___add__, d_Meal___add__ := (PySem.W.fnOf "__add__" "Meal.__add__" (defArgs s_Meal___add__) (defBody s_Meal___add__) (defScope s_Meal___add__) .none kV_Meal___add__ dc_Meal___add__ pm_Meal___add__ an_Meal___add__ cd_Meal___add__ ct_Meal___add__), a_Meal___eq__ := f_Meal___eq__, d_Meal___eq__ := (PySem.W.fnOf "__eq__" "Meal.__eq__" (defArgs s_Meal___eq__) (defBody s_Meal___eq__) (defScope s_Meal___eq__) .none kV_Meal___eq__ dc_Meal___eq__ pm_Meal___eq__ an_Meal___eq__ cd_Meal___eq__ ct_Meal___eq__), a_check_dishes := f_check_dishes, d_check_dishes := (PySem.W.fnOf "check_dishes" "check_dishes" (defArgs s_check_dishes) (defBody s_check_dishes) (defScope s_check_dishes) .none kV_check_dishes dc_check_dishes pm_check_dishes an_check_dishes cd_check_dishes ct_check_dishes), a_check_wishes := f_check_wishes, d_check_wishes := (PySem.W.fnOf "check_wishes" "check_wishes" (defArgs s_check_wishes) (defBody s_check_wishes) (defScope s_check_wishes) .none kV_check_wishes dc_check_wishes pm_check_wishes an_check_wishes cd_check_wishes ct_check_wishes), a_check_stations := f_check_stations, d_check_stations := (PySem.W.fnOf "check_stations" "check_stations" (defArgs s_check_stations) (defBody s_check_stations) (defScope s_check_stations) .none kV_check_stations dc_check_stations pm_check_stations an_check_stations cd_check_stations ct_check_stations), a__law_fresh := f__law_fresh, d__law_fresh := (PySem.W.fnOf "_law_fresh" "_law_fresh" (defArgs s__law_fresh) (defBody s__law_fresh) (defScope s__law_fresh) .none kV__law_fresh dc__law_fresh pm__law_fresh an__law_fresh cd__law_fresh ct__law_fresh), a__law_take := f__law_take, d__law_take := (PySem.W.fnOf "_law_take" "_law_take" (defArgs s__law_take) (defBody s__law_take) (defScope s__law_take) .none kV__law_take dc__law_take pm__law_take an__law_take cd__law_take ct__law_take), a__law_one := f__law_one, d__law_one := (PySem.W.fnOf "_law_one" "_law_one" (defArgs s__law_one) (defBody s__law_one) (defScope s__law_one) .none kV__law_one dc__law_one pm__law_one an__law_one cd__law_one ct__law_one), a__law_mix := f__law_mix, d__law_mix := (PySem.W.fnOf "_law_mix" "_law_mix" (defArgs s__law_mix) (defBody s__law_mix) (defScope s__law_mix) .none kV__law_mix dc__law_mix pm__law_mix an__law_mix cd__law_mix ct__law_mix), a__law_some := f__law_some, d__law_some := (PySem.W.fnOf "_law_some" "_law_some" (defArgs s__law_some) (defBody s__law_some) (defScope s__law_some) .none kV__law_some dc__law_some pm__law_some an__law_some cd__law_some ct__law_some), a__law_same := f__law_same, d__law_same := (PySem.W.fnOf "_law_same" "_law_same" (defArgs s__law_same) (defBody s__law_same) (defScope s__law_same) .none kV__law_same dc__law_same pm__law_same an__law_same cd__law_same ct__law_same), a__law_same_dict := f__law_same_dict, d__law_same_dict := (PySem.W.fnOf "_law_same_dict" "_law_same_dict" (defArgs s__law_same_dict) (defBody s__law_same_dict) (defScope s__law_same_dict) .none kV__law_same_dict dc__law_same_dict pm__law_same_dict an__law_same_dict cd__law_same_dict ct__law_same_dict), a__law_loose := f__law_loose, d__law_loose := (PySem.W.fnOf "_law_loose" "_law_loose" (defArgs s__law_loose) (defBody s__law_loose) (defScope s__law_loose) .none kV__law_loose dc__law_loose pm__law_loose an__law_loose cd__law_loose ct__law_loose), a__law_names := f__law_names, d__law_names := (PySem.W.fnOf "_law_names" "_law_names" (defArgs s__law_names) (defBody s__law_names) (defScope s__law_names) .none kV__law_names dc__law_names pm__law_names an__law_names cd__law_names ct__law_names), a__law_rising := f__law_rising, d__law_rising := (PySem.W.fnOf "_law_rising" "_law_rising" (defArgs s__law_rising) (defBody s__law_rising) (defScope s__law_rising) .none kV__law_rising dc__law_rising pm__law_rising an__law_rising cd__law_rising ct__law_rising), a__law_dishes := f__law_dishes, d__law_dishes := (PySem.W.fnOf "_law_dishes" "_law_dishes" (defArgs s__law_dishes) (defBody s__law_dishes) (defScope s__law_dishes) .none kV__law_dishes dc__law_dishes pm__law_dishes an__law_dishes cd__law_dishes ct__law_dishes), a__law_moment := f__law_moment, d__law_moment := (PySem.W.fnOf "_law_moment" "_law_moment" (defArgs s__law_moment) (defBody s__law_moment) (defScope s__law_moment) .none kV__law_moment dc__law_moment pm__law_moment an__law_moment cd__law_moment ct__law_moment), a__law_wishes := f__law_wishes, d__law_wishes := (PySem.W.fnOf "_law_wishes" "_law_wishes" (defArgs s__law_wishes) (defBody s__law_wishes) (defScope s__law_wishes) .none kV__law_wishes dc__law_wishes pm__law_wishes an__law_wishes cd__law_wishes ct__law_wishes), a__law_with := f__law_with, d__law_with := (PySem.W.fnOf "_law_with" "_law_with" (defArgs s__law_with) (defBody s__law_with) (defScope s__law_with) .none kV__law_with dc__law_with pm__law_with an__law_with cd__law_with ct__law_with), a__law_stations := f__law_stations, d__law_stations := (PySem.W.fnOf "_law_stations" "_law_stations" (defArgs s__law_stations) (defBody s__law_stations) (defScope s__law_stations) .none kV__law_stations dc__law_stations pm__law_stations an__law_stations cd__law_stations ct__law_stations), a__law_tried := f__law_tried, d__law_tried := (PySem.W.fnOf "_law_tried" "_law_tried" (defArgs s__law_tried) (defBody s__law_tried) (defScope s__law_tried) .none kV__law_tried dc__law_tried pm__law_tried an__law_tried cd__law_tried ct__law_tried), a__law_is_meal := f__law_is_meal, d__law_is_meal := (PySem.W.fnOf "_law_is_meal" "_law_is_meal" (defArgs s__law_is_meal) (defBody s__law_is_meal) (defScope s__law_is_meal) .none kV__law_is_meal dc__law_is_meal pm__law_is_meal an__law_is_meal cd__law_is_meal ct__law_is_meal), a__law_are_joined := f__law_are_joined, d__law_are_joined := (PySem.W.fnOf "_law_are_joined" "_law_are_joined" (defArgs s__law_are_joined) (defBody s__law_are_joined) (defScope s__law_are_joined) .none kV__law_are_joined dc__law_are_joined pm__law_are_joined an__law_are_joined (.ref cJ) ct__law_are_joined), a_law := fa, d_law := (PySem.W.fnOf "law" "law" (defArgs s_law) (defBody s_law) (defScope s_law) .none kV_law dc_law pm_law an_law (.ref cL) ct_law), a_Meal := c_Meal, a_NoWish := c_NoWish, a_Clash := c_Clash, a_EDGES := E0, a_W0 := W0, a_S0 := S0 } : Ad) := {
    f_is_integer := F_is_integer
    g_is_integer := PySem.W.mg_of X G x1_is_integer
    b_is_integer := F_is_integer.binds fun _ _ _ _ _ _ us hl => match us, hl with | [_], _ => rfl
    f_is_list := F_is_list
    g_is_list := PySem.W.mg_of X G x1_is_list
    b_is_list := F_is_list.binds fun _ _ _ _ _ _ us hl => match us, hl with | [_], _ => rfl
    f_is_name := F_is_name
    g_is_name := PySem.W.mg_of X G x1_is_name
    b_is_name := F_is_name.binds fun _ _ _ _ _ _ us hl => match us, hl with | [_], _ => rfl
    f_is_dish := F_is_dish
    g_is_dish := PySem.W.mg_of X G x1_is_dish
    b_is_dish := F_is_dish.binds fun _ _ _ _ _ _ us hl => match us, hl with | [_, _], _ => rfl
    f_is_index := F_is_index
    g_is_index := PySem.W.mg_of X G x1_is_index
    b_is_index := F_is_index.binds fun _ _ _ _ _ _ us hl => match us, hl with | [_, _], _ => rfl
    f_copied := F_copied
    g_copied := PySem.W.mg_of X G x1_copied
    b_copied := F_copied.binds fun _ _ _ _ _ _ us hl => match us, hl with | [_], _ => rfl
    f_is_bounds := F_is_bounds
    g_is_bounds := PySem.W.mg_of X G x1_is_bounds
    b_is_bounds := F_is_bounds.binds fun _ _ _ _ _ _ us hl => match us, hl with | [_], _ => rfl
    f_is_moment := F_is_moment
    g_is_moment := PySem.W.mg_of X G x1_is_moment
    b_is_moment := F_is_moment.binds fun _ _ _ _ _ _ us hl => match us, hl with | [_, _], _ => rfl
    f_is_wish := F_is_wish
    g_is_wish := PySem.W.mg_of X G x1_is_wish
    b_is_wish := F_is_wish.binds fun _ _ _ _ _ _ us hl => match us, hl with | [_, _], _ => rfl
    f_is_station := F_is_station
    g_is_station := PySem.W.mg_of X G x1_is_station
    b_is_station := F_is_station.binds fun _ _ _ _ _ _ us hl => match us, hl with | [_, _], _ => rfl
    f_as_moment := F_as_moment
    g_as_moment := PySem.W.mg_of X G x1_as_moment
    b_as_moment := F_as_moment.binds fun _ _ _ _ _ _ us hl => match us, hl with | [_], _ => rfl
    f_as_wish := F_as_wish
    g_as_wish := PySem.W.mg_of X G x1_as_wish
    b_as_wish := F_as_wish.binds fun _ _ _ _ _ _ us hl => match us, hl with | [_], _ => rfl
    f_check_dish := F_check_dish
    g_check_dish := PySem.W.mg_of X G x1_check_dish
    b_check_dish := F_check_dish.binds fun _ _ _ _ _ _ us hl => match us, hl with | [_, _], _ => rfl
    f_NoWish___init__ := F_NoWish___init__
    b_NoWish___init__ := F_NoWish___init__.binds fun _ _ _ _ _ _ us hl => match us, hl with | [_, _], _ => rfl
    f_Clash___init__ := F_Clash___init__
    b_Clash___init__ := F_Clash___init__.binds fun _ _ _ _ _ _ us hl => match us, hl with | [_, _], _ => rfl
    f_Meal___init__ := F_Meal___init__
    f_Meal_dishes := F_Meal_dishes
    b_Meal_dishes := F_Meal_dishes.binds fun _ _ _ _ _ _ us hl => match us, hl with | [_], _ => rfl
    f_Meal_wishes := F_Meal_wishes
    b_Meal_wishes := F_Meal_wishes.binds fun _ _ _ _ _ _ us hl => match us, hl with | [_], _ => rfl
    f_Meal_stations := F_Meal_stations
    b_Meal_stations := F_Meal_stations.binds fun _ _ _ _ _ _ us hl => match us, hl with | [_], _ => rfl
    f_Meal_more := F_Meal_more
    b_Meal_more := F_Meal_more.binds fun _ _ _ _ _ _ us hl => match us, hl with | [_, _], _ => rfl
    f_Meal_less := F_Meal_less
    b_Meal_less := F_Meal_less.binds fun _ _ _ _ _ _ us hl => match us, hl with | [_, _], _ => rfl
    f_Meal_taking := F_Meal_taking
    b_Meal_taking := F_Meal_taking.binds fun _ _ _ _ _ _ us hl => match us, hl with | [_, _, _, _], _ => rfl
    f_Meal___add__ := F_Meal___add__
    b_Meal___add__ := F_Meal___add__.binds fun _ _ _ _ _ _ us hl => match us, hl with | [_, _], _ => rfl
    f_Meal___eq__ := F_Meal___eq__
    b_Meal___eq__ := F_Meal___eq__.binds fun _ _ _ _ _ _ us hl => match us, hl with | [_, _], _ => rfl
    f_check_dishes := F_check_dishes
    g_check_dishes := PySem.W.mg_of X G x1_check_dishes
    b_check_dishes := F_check_dishes.binds fun _ _ _ _ _ _ us hl => match us, hl with | [_], _ => rfl
    f_check_wishes := F_check_wishes
    g_check_wishes := PySem.W.mg_of X G x1_check_wishes
    b_check_wishes := F_check_wishes.binds fun _ _ _ _ _ _ us hl => match us, hl with | [_, _], _ => rfl
    f_check_stations := F_check_stations
    g_check_stations := PySem.W.mg_of X G x1_check_stations
    b_check_stations := F_check_stations.binds fun _ _ _ _ _ _ us hl => match us, hl with | [_, _], _ => rfl
    f__law_fresh := F__law_fresh
    g__law_fresh := PySem.W.mg_of X G x1__law_fresh
    b__law_fresh := F__law_fresh.binds fun _ _ _ _ _ _ us hl => match us, hl with | [_], _ => rfl
    f__law_take := F__law_take
    g__law_take := PySem.W.mg_of X G x1__law_take
    b__law_take := F__law_take.binds fun _ _ _ _ _ _ us hl => match us, hl with | [_, _], _ => rfl
    f__law_one := F__law_one
    g__law_one := PySem.W.mg_of X G x1__law_one
    b__law_one := F__law_one.binds fun _ _ _ _ _ _ us hl => match us, hl with | [_, _], _ => rfl
    f__law_mix := F__law_mix
    g__law_mix := PySem.W.mg_of X G x1__law_mix
    b__law_mix := F__law_mix.binds fun _ _ _ _ _ _ us hl => match us, hl with | [_, _], _ => rfl
    f__law_some := F__law_some
    g__law_some := PySem.W.mg_of X G x1__law_some
    b__law_some := F__law_some.binds fun _ _ _ _ _ _ us hl => match us, hl with | [_, _], _ => rfl
    f__law_same := F__law_same
    g__law_same := PySem.W.mg_of X G x1__law_same
    b__law_same := F__law_same.binds fun _ _ _ _ _ _ us hl => match us, hl with | [_, _], _ => rfl
    f__law_same_dict := F__law_same_dict
    g__law_same_dict := PySem.W.mg_of X G x1__law_same_dict
    b__law_same_dict := F__law_same_dict.binds fun _ _ _ _ _ _ us hl => match us, hl with | [_, _], _ => rfl
    f__law_loose := F__law_loose
    g__law_loose := PySem.W.mg_of X G x1__law_loose
    b__law_loose := F__law_loose.binds fun _ _ _ _ _ _ us hl => match us, hl with | [_, _], _ => rfl
    f__law_names := F__law_names
    g__law_names := PySem.W.mg_of X G x1__law_names
    b__law_names := F__law_names.binds fun _ _ _ _ _ _ us hl => match us, hl with | [_, _], _ => rfl
    f__law_rising := F__law_rising
    g__law_rising := PySem.W.mg_of X G x1__law_rising
    b__law_rising := F__law_rising.binds fun _ _ _ _ _ _ us hl => match us, hl with | [_], _ => rfl
    f__law_dishes := F__law_dishes
    g__law_dishes := PySem.W.mg_of X G x1__law_dishes
    b__law_dishes := F__law_dishes.binds fun _ _ _ _ _ _ us hl => match us, hl with | [_, _, _], _ => rfl
    f__law_moment := F__law_moment
    g__law_moment := PySem.W.mg_of X G x1__law_moment
    b__law_moment := F__law_moment.binds fun _ _ _ _ _ _ us hl => match us, hl with | [_, _], _ => rfl
    f__law_wishes := F__law_wishes
    g__law_wishes := PySem.W.mg_of X G x1__law_wishes
    b__law_wishes := F__law_wishes.binds fun _ _ _ _ _ _ us hl => match us, hl with | [_, _, _], _ => rfl
    f__law_with := F__law_with
    g__law_with := PySem.W.mg_of X G x1__law_with
    b__law_with := F__law_with.binds fun _ _ _ _ _ _ us hl => match us, hl with | [_, _, _], _ => rfl
    f__law_stations := F__law_stations
    g__law_stations := PySem.W.mg_of X G x1__law_stations
    b__law_stations := F__law_stations.binds fun _ _ _ _ _ _ us hl => match us, hl with | [_, _], _ => rfl
    f__law_tried := F__law_tried
    g__law_tried := PySem.W.mg_of X G x1__law_tried
    b__law_tried := F__law_tried.binds fun _ _ _ _ _ _ us hl => match us, hl with | [_], _ => rfl
    f__law_is_meal := F__law_is_meal
    g__law_is_meal := PySem.W.mg_of X G x1__law_is_meal
    b__law_is_meal := F__law_is_meal.binds fun _ _ _ _ _ _ us hl => match us, hl with | [_, _, _, _], _ => rfl
    f__law_are_joined := F__law_are_joined
    g__law_are_joined := PySem.W.mg_of X G x1__law_are_joined
    b__law_are_joined := F__law_are_joined.binds fun _ _ _ _ _ _ us hl => match us, hl with | [_, _, _, _], _ => rfl
    f_law := F_law
    g_law := PySem.W.mg_of X G x1_law
    b_law := F_law.binds fun _ _ _ _ _ _ us hl => match us, hl with | [_], _ => rfl
    g_CLOCK := ⟨_, PySem.W.mg_of X G x1_CLOCK⟩
    g_LETTERS := ⟨_, PySem.W.mg_of X G x1_LETTERS⟩
    g_LONGEST_NAME := ⟨_, PySem.W.mg_of X G x1_LONGEST_NAME⟩
    len := PySem.W.mg_none_of X G x1_len
    abs := PySem.W.mg_none_of X G x1_abs
    int := PySem.W.mg_none_of X G x1_int
    list := PySem.W.mg_none_of X G x1_list
    tuple := PySem.W.mg_none_of X G x1_tuple
    bool := PySem.W.mg_none_of X G x1_bool
    str := PySem.W.mg_none_of X G x1_str
    dict := PySem.W.mg_none_of X G x1_dict
    isinstance := PySem.W.mg_none_of X G x1_isinstance
    all := PySem.W.mg_none_of X G x1_all
    any := PySem.W.mg_none_of X G x1_any
    zip := PySem.W.mg_none_of X G x1_zip
    enumerate := PySem.W.mg_none_of X G x1_enumerate
    range := PySem.W.mg_none_of X G x1_range
    sorted := PySem.W.mg_none_of X G x1_sorted
    set := PySem.W.mg_none_of X G x1_set
    g_EDGES := PySem.W.mg_of X G xE1
    t_EDGES := .inr ⟨_, _, _, xE2, rfl, rfl, by show 2 ≤ sizeLine; decide, .cons ⟨_, rfl⟩ (.cons ⟨_, rfl⟩ .nil)⟩
    cl_M := ⟨y2_Meal, y3_Meal, y4_Meal, y5_Meal⟩
    nB := z_Meal_bounds
    nW := z_Meal_wished
    nP := z_Meal_places
    g_Meal := PySem.W.mg_of X G y1_Meal
    mkM := ⟨y6_Meal, x1_Meal___init__, x5_Meal___init__, y7_Meal⟩
    m_dishes := ⟨x1_Meal_dishes, x5_Meal_dishes, x4_Meal_dishes⟩
    m_wishes := ⟨x1_Meal_wishes, x5_Meal_wishes, x4_Meal_wishes⟩
    m_stations := ⟨x1_Meal_stations, x5_Meal_stations, x4_Meal_stations⟩
    b_Meal___init__ := by
      obtain ⟨ds, hv, hb⟩ := F_Meal___init__.binds1 (ps := P_Meal___init__) 4 2 (by simp) rfl fun _ _ _ _ _ _ _ us its hu hi => match us, its, hu, hi with | [_, _, _, _], [_, _], _, _ => ⟨_, rfl, by kernel_rfl⟩
      cases hv
      exact hb
    m_eq := ⟨x1_Meal___eq__, x5_Meal___eq__, x4_Meal___eq__⟩
    aC := u1
    aG := u2
    aT := u3
    nfM := u4
    kMM := u5
    nE := u6
    mO := u7
    kMN := u17
    kMI := u18
    kMD := u19
    qML := u8
    qMT := u9
    qMI := u10
    sfM := u11
    m_more := ⟨x1_Meal_more, x5_Meal_more, x4_Meal_more⟩
    m_less := ⟨x1_Meal_less, x5_Meal_less, x4_Meal_less⟩
    m_taking := ⟨x1_Meal_taking, x5_Meal_taking, x4_Meal_taking⟩
    oAdd := ⟨(by rw [show PySem.dunder (Operator.info .Add).2 = ("__add__" : Str) from by decide +kernel]; exact x1_Meal___add__), x5_Meal___add__⟩
    e0 := .inr ⟨_, _, _, xS, rfl, rfl, by show 0 ≤ sizeLine; decide, .nil⟩
    e0W := .inr ⟨_, _, _, xW, rfl, rfl, by show 0 ≤ sizeLine; decide, .nil⟩
    b2_M := F_Meal___init__.binds1 2 0 (by simp) rfl fun _ _ _ _ _ _ _ us its hu hi => match us, its, hu, hi with | [_, _], [_, _], _, _ => ⟨_, rfl, by kernel_rfl⟩
    xWi := ⟨⟨_, _, _, _, _, _, _, _, _, _, _, _, _, _, _, oe_NoWish, re_NoWish⟩, sa_NoWish, sx_NoWish, ty_NoWish, ke_NoWish⟩
    nWi := z_NoWish_index
    iWi := x1_NoWish___init__
    tWi := u12
    g_NoWish := PySem.W.mg_of X G y1_NoWish
    xfWi := ⟨ga_NoWish, gg_NoWish, sx_NoWish, hd_NoWish⟩
    xCl := ⟨⟨_, _, _, _, _, _, _, _, _, _, _, _, _, _, _, oe_Clash, re_Clash⟩, sa_Clash, sx_Clash, ty_Clash, ke_Clash⟩
    nCl := z_Clash_name
    iCl := x1_Clash___init__
    tCl := u13
    g_Clash := PySem.W.mg_of X G y1_Clash
    xfCl := ⟨ga_Clash, gg_Clash, sx_Clash, hd_Clash⟩
    eWW := u14
    eCW := u15
    eCC := u16 }
  exact ⟨_, fun s v => .of_eq rfl, fun base _ _ TB0 TB1 => ok_lawT T x2_law x3_law x2__law_are_joined x3__law_are_joined nPP TB0 TB1⟩

theorem walkT {l : PySem.W.OpenLaw} {q : Program} {loose : List Str} {XP : (Str → Option Value) → Heap → Prop} {YP : World → Heap → Prop} {d d2 : DefRec} {K : Params → PySem.W.Frag} {cL P1 cJ P2 : Addr} (hn : l.most = some 63) (hdf : d.params.defaults = [])
    (hY : ∀ (w : World) (h : Heap), YP w h → (K w.params).In h) (hd : (PyProof.Rows.recsOf q).find? (fun e => e.name == ("law" : Str)) = some d) (hd2 : (PyProof.Rows.recsOf q).find? (fun e => e.name == ("_law_are_joined" : Str)) = some d2)
    (ht : ∀ w : World, PySem.W.tabIn (K w.params) ("law" : Str) = some (cL, P1)) (ht2 : ∀ w : World, PySem.W.tabIn (K w.params) ("_law_are_joined" : Str) = some (cJ, P2)) (nP : ∀ w : World, (K w.params).lookup P1 = none) (nP2 : ∀ w : World, (K w.params).lookup P2 = none)
    (F : ∀ (w : World) (mg : Str → Option Value) (fa : Addr) (h : Heap), (K w.params).In h → h.Ns mainGlobals mg → mg d.name = some (.ref fa) →
      ∃ fd : FuncData, (∀ (s : Shared) (u : Value), BindsTo s fd ⟨[u], []⟩ [("_law_script", u)]) ∧ ∀ base : Heap, (K w.params).In base → base.Ns mainGlobals mg → LamX.TabB base mg cL P1 → LamX.TabB base mg cJ P2 → FnOk l.prog w (K w.params) mg base CX0 12 fa fd ["_law_script"] (spLawT (K w.params) P1 P2)) :
    PySem.W.WalkO q loose XP YP l.row.toRowW d [] (fun f vs => PySem.call f vs) := by
  refine Att.attach_callB hn hdf fun w s0 s1 mg mb fa o pm cd doc a vs ns G Y ho hdd hcd hmg hobj hints hlen hbits hg => ?_
  have KX := hY w _ Y
  obtain ⟨hC, hP⟩ := PySem.W.tab_of G.T KX hd (ht w)
  obtain ⟨hC2, hP2⟩ := PySem.W.tab_of G.T KX hd2 (ht2 w)
  obtain ⟨fd, hb, hF⟩ := F w mg fa _ KX G.T.g hmg
  refine LamX.law_callTs (cs := [(cL, P1), (cJ, P2)]) (k := 12) (CX := CX0) (sp := spLawT (K w.params) P1 P2) KX G.T.g G.T.b G.T.builtins G.T.nolimit hg ?_ ?_ ?_ G.T.bmain hobj hints (Nat.le_trans hlen (by decide)) ⟨rfl, by decide, by decide⟩ (fun base h1 h2 h3 => hF base h1 h2 (h3 _ (List.mem_cons_self ..)) (h3 _ (List.mem_cons_of_mem _ (List.mem_singleton.mpr rfl)))) hb (fun H hH hS => ?_) fun H e s' z => z
  · intro p hp
    rcases List.mem_cons.mp hp with z | z
    · rw [z]; exact hP
    · rw [List.mem_singleton.mp z]; exact hP2
  · intro p hp
    rcases List.mem_cons.mp hp with z | z
    · rw [z]; exact nP w
    · rw [List.mem_singleton.mp z]; exact nP2 w
  · intro p hp
    rcases List.mem_cons.mp hp with z | z
    · rw [z]; exact hC
    · rw [List.mem_singleton.mp z]; exact hC2
  · refine ⟨a, ns, rfl, hS, hlen, fun p hp => ?_, fun _ => rfl⟩
    rcases List.mem_cons.mp hp with z | z
    · rw [z]; exact LamX.TabS.nil (hH _ (List.mem_cons_self ..))
    · rw [List.mem_singleton.mp z]; exact LamX.TabS.nil (hH _ (List.mem_cons_of_mem _ (List.mem_singleton.mpr rfl)))
end
end K5
open PySem PySem.W PyProof.Rows in
set_option maxRecDepth 100000 in
set_option maxHeartbeats 0 in
theorem PySem.Challenge.cw_cookcalls_k04_meals_changed_holds : PySem.Challenge.rw_cookcalls_k04_meals_changed.Holds := by
  w_on; o_law; k_head; (case hw => w_witness2)
  k_fill
  refine K5.walkT (l := PySem.Challenge.rw_cookcalls_k04_meals_changed) (cL := 465) (P1 := 461) (cJ := 458) (P2 := 456) rfl rfl (fun w h Y => PySem.W.km_in_of Y) rfl rfl (fun w => by kernel_rfl) (fun w => by kernel_rfl) (fun w => by kernel_rfl) (fun w => by kernel_rfl) ?F
  case F =>
    intro w mg fa h KX G hmg
    refine' K5.all_mk KX G hmg ?y1_Meal ?y2_Meal ?y3_Meal ?y4_Meal ?y5_Meal ?y6_Meal ?y7_Meal ?z_Meal_bounds ?z_Meal_wished ?z_Meal_places ?y1_Clash ?oe_Clash ?re_Clash ?sa_Clash ?sx_Clash ?ty_Clash ?ke_Clash ?ga_Clash ?gg_Clash ?hd_Clash ?z_Clash_name ?y1_NoWish ?oe_NoWish ?re_NoWish ?sa_NoWish ?sx_NoWish ?ty_NoWish ?ke_NoWish ?ga_NoWish ?gg_NoWish ?hd_NoWish ?z_NoWish_index ?x1_is_integer ?x2_is_integer ?x3_is_integer ?x4_is_integer ?x1_is_list ?x2_is_list ?x3_is_list ?x4_is_list ?x1_is_name ?x2_is_name ?x3_is_name ?x4_is_name ?x1_is_dish ?x2_is_dish ?x3_is_dish ?x4_is_dish ?x1_is_index ?x2_is_index ?x3_is_index ?x4_is_index ?x1_copied ?x2_copied ?x3_copied ?x4_copied ?x1_is_bounds ?x2_is_bounds ?x3_is_bounds ?x4_is_bounds ?x1_is_moment ?x2_is_moment ?x3_is_moment ?x4_is_moment ?x1_is_wish ?x2_is_wish ?x3_is_wish ?x4_is_wish ?x1_is_station ?x2_is_station ?x3_is_station ?x4_is_station ?x1_as_moment ?x2_as_moment ?x3_as_moment ?x4_as_moment ?x1_as_wish ?x2_as_wish ?x3_as_wish ?x4_as_wish ?x1_check_dish ?x2_check_dish ?x3_check_dish ?x4_check_dish ?x1_NoWish___init__ ?x5_NoWish___init__ ?x2_NoWish___init__ ?x3_NoWish___init__ ?x4_NoWish___init__ ?x1_Clash___init__ ?x5_Clash___init__ ?x2_Clash___init__ ?x3_Clash___init__ ?x4_Clash___init__ ?x1_Meal___init__ ?x5_Meal___init__ ?x2_Meal___init__ ?x3_Meal___init__ ?x4_Meal___init__ ?x1_Meal_dishes ?x5_Meal_dishes ?x2_Meal_dishes ?x3_Meal_dishes ?x4_Meal_dishes ?x1_Meal_wishes ?x5_Meal_wishes ?x2_Meal_wishes ?x3_Meal_wishes ?x4_Meal_wishes ?x1_Meal_stations ?x5_Meal_stations ?x2_Meal_stations ?x3_Meal_stations ?x4_Meal_stations ?x1_Meal_more ?x5_Meal_more ?x2_Meal_more ?x3_Meal_more ?x4_Meal_more ?x1_Meal_less ?x5_Meal_less ?x2_Meal_less ?x3_Meal_less ?x4_Meal_less ?x1_Meal_taking ?x5_Meal_taking ?x2_Meal_taking ?x3_Meal_taking ?x4_Meal_taking ?x1_Meal___add__ ?x5_Meal___add__ ?x2_Meal___add__ ?x3_Meal___add__ ?x4_Meal___add__ ?x1_Meal___eq__ ?x5_Meal___eq__ ?x2_Meal___eq__ ?x3_Meal___eq__ ?x4_Meal___eq__ ?x1_check_dishes ?x2_check_dishes ?x3_check_dishes ?x4_check_dishes ?x1_check_wishes ?x2_check_wishes ?x3_check_wishes ?x4_check_wishes ?x1_check_stations ?x2_check_stations ?x3_check_stations ?x4_check_stations ?x1__law_fresh ?x2__law_fresh ?x3__law_fresh ?x4__law_fresh ?x1__law_take ?x2__law_take ?x3__law_take ?x4__law_take ?x1__law_one ?x2__law_one ?x3__law_one ?x4__law_one ?x1__law_mix ?x2__law_mix ?x3__law_mix ?x4__law_mix ?x1__law_some ?x2__law_some ?x3__law_some ?x4__law_some ?x1__law_same ?x2__law_same ?x3__law_same ?x4__law_same ?x1__law_same_dict ?x2__law_same_dict ?x3__law_same_dict ?x4__law_same_dict ?x1__law_loose ?x2__law_loose ?x3__law_loose ?x4__law_loose ?x1__law_names ?x2__law_names ?x3__law_names ?x4__law_names ?x1__law_rising ?x2__law_rising ?x3__law_rising ?x4__law_rising ?x1__law_dishes ?x2__law_dishes ?x3__law_dishes ?x4__law_dishes ?x1__law_moment ?x2__law_moment ?x3__law_moment ?x4__law_moment ?x1__law_wishes ?x2__law_wishes ?x3__law_wishes ?x4__law_wishes ?x1__law_with ?x2__law_with ?x3__law_with ?x4__law_with ?x1__law_stations ?x2__law_stations ?x3__law_stations ?x4__law_stations ?x1__law_tried ?x2__law_tried ?x3__law_tried ?x4__law_tried ?x1__law_is_meal ?x2__law_is_meal ?x3__law_is_meal ?x4__law_is_meal ?x1__law_are_joined ?x2__law_are_joined ?x3__law_are_joined ?x4__law_are_joined ?x1_law ?x2_law ?x3_law ?x4_law ?x1_CLOCK ?x1_LETTERS ?x1_LONGEST_NAME ?x1_len ?x1_abs ?x1_int ?x1_list ?x1_tuple ?x1_bool ?x1_str ?x1_dict ?x1_isinstance ?x1_all ?x1_any ?x1_zip ?x1_enumerate ?x1_range ?x1_sorted ?x1_set ?nPP ?xT ?xS ?xW ?xE1 ?xE2 ?u1 ?u2 ?u3 ?u4 ?u5 ?u6 ?u7 ?u8 ?u9 ?u10 ?u11 ?u12 ?u13 ?u14 ?u15 ?u16 ?u17 ?u18 ?u19
    (case y1_Meal => first | k_is | kernel_rfl | rfl | decide +kernel)
    (case y2_Meal => first | k_is | kernel_rfl | rfl | decide +kernel)
    (case y3_Meal => first | k_is | kernel_rfl | rfl | decide +kernel)
    (case y4_Meal => first | k_is | kernel_rfl | rfl | decide +kernel)
    (case y5_Meal => first | k_is | kernel_rfl | rfl | decide +kernel)
    (case y6_Meal => first | k_is | kernel_rfl | rfl | decide +kernel)
    (case y7_Meal => first | k_is | kernel_rfl | rfl | decide +kernel)
    (case z_Meal_bounds => first | k_is | kernel_rfl | rfl | decide +kernel)
    (case z_Meal_wished => first | k_is | kernel_rfl | rfl | decide +kernel)
    (case z_Meal_places => first | k_is | kernel_rfl | rfl | decide +kernel)
    (case y1_Clash => first | k_is | kernel_rfl | rfl | decide +kernel)
    (case oe_Clash => first | k_is | kernel_rfl | rfl | decide +kernel)
    (case re_Clash => rfl)
    (case sa_Clash => first | k_is | kernel_rfl | rfl | decide +kernel)
    (case sx_Clash => first | k_is | kernel_rfl | rfl | decide +kernel)
    (case ty_Clash => first | k_is | kernel_rfl | rfl | decide +kernel)
    (case ke_Clash => first | k_is | kernel_rfl | rfl | decide +kernel)
    (case ga_Clash => first | k_is | kernel_rfl | rfl | decide +kernel)
    (case gg_Clash => first | k_is | kernel_rfl | rfl | decide +kernel)
    (case hd_Clash => first | k_is | kernel_rfl | rfl | decide +kernel)
    (case z_Clash_name => first | k_is | kernel_rfl | rfl | decide +kernel)
    (case y1_NoWish => first | k_is | kernel_rfl | rfl | decide +kernel)
    (case oe_NoWish => first | k_is | kernel_rfl | rfl | decide +kernel)
    (case re_NoWish => rfl)
    (case sa_NoWish => first | k_is | kernel_rfl | rfl | decide +kernel)
    (case sx_NoWish => first | k_is | kernel_rfl | rfl | decide +kernel)
    (case ty_NoWish => first | k_is | kernel_rfl | rfl | decide +kernel)
    (case ke_NoWish => first | k_is | kernel_rfl | rfl | decide +kernel)
    (case ga_NoWish => first | k_is | kernel_rfl | rfl | decide +kernel)
    (case gg_NoWish => first | k_is | kernel_rfl | rfl | decide +kernel)
    (case hd_NoWish => first | k_is | kernel_rfl | rfl | decide +kernel)
    (case z_NoWish_index => first | k_is | kernel_rfl | rfl | decide +kernel)
    (case x1_is_integer => first | k_is | kernel_rfl | rfl | decide +kernel)
    (case x2_is_integer => first | k_is | kernel_rfl | rfl | decide +kernel)
    (case x3_is_integer => first | k_is | kernel_rfl | rfl | decide +kernel)
    (case x4_is_integer => first | k_is | kernel_rfl | rfl | decide +kernel)
    (case x1_is_list => first | k_is | kernel_rfl | rfl | decide +kernel)
    (case x2_is_list => first | k_is | kernel_rfl | rfl | decide +kernel)
    (case x3_is_list => first | k_is | kernel_rfl | rfl | decide +kernel)
    (case x4_is_list => first | k_is | kernel_rfl | rfl | decide +kernel)
    (case x1_is_name => first | k_is | kernel_rfl | rfl | decide +kernel)
    (case x2_is_name => first | k_is | kernel_rfl | rfl | decide +kernel)
    (case x3_is_name => first | k_is | kernel_rfl | rfl | decide +kernel)
    (case x4_is_name => first | k_is | kernel_rfl | rfl | decide +kernel)
    (case x1_is_dish => first | k_is | kernel_rfl | rfl | decide +kernel)
    (case x2_is_dish => first | k_is | kernel_rfl | rfl | decide +kernel)
    (case x3_is_dish => first | k_is | kernel_rfl | rfl | decide +kernel)
    (case x4_is_dish => first | k_is | kernel_rfl | rfl | decide +kernel)
    (case x1_is_index => first | k_is | kernel_rfl | rfl | decide +kernel)
    (case x2_is_index => first | k_is | kernel_rfl | rfl | decide +kernel)
    (case x3_is_index => first | k_is | kernel_rfl | rfl | decide +kernel)
    (case x4_is_index => first | k_is | kernel_rfl | rfl | decide +kernel)
    (case x1_copied => first | k_is | kernel_rfl | rfl | decide +kernel)
    (case x2_copied => first | k_is | kernel_rfl | rfl | decide +kernel)
    (case x3_copied => first | k_is | kernel_rfl | rfl | decide +kernel)
    (case x4_copied => first | k_is | kernel_rfl | rfl | decide +kernel)
    (case x1_is_bounds => first | k_is | kernel_rfl | rfl | decide +kernel)
    (case x2_is_bounds => first | k_is | kernel_rfl | rfl | decide +kernel)
    (case x3_is_bounds => first | k_is | kernel_rfl | rfl | decide +kernel)
    (case x4_is_bounds => first | k_is | kernel_rfl | rfl | decide +kernel)
    (case x1_is_moment => first | k_is | kernel_rfl | rfl | decide +kernel)
    (case x2_is_moment => first | k_is | kernel_rfl | rfl | decide +kernel)
    (case x3_is_moment => first | k_is | kernel_rfl | rfl | decide +kernel)
    (case x4_is_moment => first | k_is | kernel_rfl | rfl | decide +kernel)
    (case x1_is_wish => first | k_is | kernel_rfl | rfl | decide +kernel)
    (case x2_is_wish => first | k_is | kernel_rfl | rfl | decide +kernel)
    (case x3_is_wish => first | k_is | kernel_rfl | rfl | decide +kernel)
    (case x4_is_wish => first | k_is | kernel_rfl | rfl | decide +kernel)
    (case x1_is_station => first | k_is | kernel_rfl | rfl | decide +kernel)
    (case x2_is_station => first | k_is | kernel_rfl | rfl | decide +kernel)
    (case x3_is_station => first | k_is | kernel_rfl | rfl | decide +kernel)
    (case x4_is_station => first | k_is | kernel_rfl | rfl | decide +kernel)
    (case x1_as_moment => first | k_is | kernel_rfl | rfl | decide +kernel)
    (case x2_as_moment => first | k_is | kernel_rfl | rfl | decide +kernel)
    (case x3_as_moment => first | k_is | kernel_rfl | rfl | decide +kernel)
    (case x4_as_moment => first | k_is | kernel_rfl | rfl | decide +kernel)
    (case x1_as_wish => first | k_is | kernel_rfl | rfl | decide +kernel)
    (case x2_as_wish => first | k_is | kernel_rfl | rfl | decide +kernel)
    (case x3_as_wish => first | k_is | kernel_rfl | rfl | decide +kernel)
    (case x4_as_wish => first | k_is | kernel_rfl | rfl | decide +kernel)
    (case x1_check_dish => first | k_is | kernel_rfl | rfl | decide +kernel)
    (case x2_check_dish => first | k_is | kernel_rfl | rfl | decide +kernel)
    (case x3_check_dish => first | k_is | kernel_rfl | rfl | decide +kernel)
    (case x4_check_dish => first | k_is | kernel_rfl | rfl | decide +kernel)
    (case x1_NoWish___init__ => first | k_is | kernel_rfl | rfl | decide +kernel)
    (case x5_NoWish___init__ => first | k_is | kernel_rfl | rfl | decide +kernel)
    (case x2_NoWish___init__ => first | k_is | kernel_rfl | rfl | decide +kernel)
    (case x3_NoWish___init__ => first | k_is | kernel_rfl | rfl | decide +kernel)
    (case x4_NoWish___init__ => first | k_is | kernel_rfl | rfl | decide +kernel)
    (case x1_Clash___init__ => first | k_is | kernel_rfl | rfl | decide +kernel)
    (case x5_Clash___init__ => first | k_is | kernel_rfl | rfl | decide +kernel)
    (case x2_Clash___init__ => first | k_is | kernel_rfl | rfl | decide +kernel)
    (case x3_Clash___init__ => first | k_is | kernel_rfl | rfl | decide +kernel)
    (case x4_Clash___init__ => first | k_is | kernel_rfl | rfl | decide +kernel)
    (case x1_Meal___init__ => first | k_is | kernel_rfl | rfl | decide +kernel)
    (case x5_Meal___init__ => first | k_is | kernel_rfl | rfl | decide +kernel)
    (case x2_Meal___init__ => first | k_is | kernel_rfl | rfl | decide +kernel)
    (case x3_Meal___init__ => first | k_is | kernel_rfl | rfl | decide +kernel)
    (case x4_Meal___init__ => first | k_is | kernel_rfl | rfl | decide +kernel)
    (case x1_Meal_dishes => first | k_is | kernel_rfl | rfl | decide +kernel)
    (case x5_Meal_dishes => first | k_is | kernel_rfl | rfl | decide +kernel)
    (case x2_Meal_dishes => first | k_is | kernel_rfl | rfl | decide +kernel)
    (case x3_Meal_dishes => first | k_is | kernel_rfl | rfl | decide +kernel)
    (case x4_Meal_dishes => first | k_is | kernel_rfl | rfl | decide +kernel)
    (case x1_Meal_wishes => first | k_is | kernel_rfl | rfl | decide +kernel)
    (case x5_Meal_wishes => first | k_is | kernel_rfl | rfl | decide +kernel)
    (case x2_Meal_wishes => first | k_is | kernel_rfl | rfl | decide +kernel)
    (case x3_Meal_wishes => first | k_is | kernel_rfl | rfl | decide +kernel)
    (case x4_Meal_wishes => first | k_is | kernel_rfl | rfl | decide +kernel)
    (case x1_Meal_stations => first | k_is | kernel_rfl | rfl | decide +kernel)
    (case x5_Meal_stations => first | k_is | kernel_rfl | rfl | decide +kernel)
    (case x2_Meal_stations => first | k_is | kernel_rfl | rfl | decide +kernel)
    (case x3_Meal_stations => first | k_is | kernel_rfl | rfl | decide +kernel)
    (case x4_Meal_stations => first | k_is | kernel_rfl | rfl | decide +kernel)
    (case x1_Meal_more => first | k_is | kernel_rfl | rfl | decide +kernel)
    (case x5_Meal_more => first | k_is | kernel_rfl | rfl | decide +kernel)
    (case x2_Meal_more => first | k_is | kernel_rfl | rfl | decide +kernel)
    (case x3_Meal_more => first | k_is | kernel_rfl | rfl | decide +kernel)
    (case x4_Meal_more => first | k_is | kernel_rfl | rfl | decide +kernel)
    (case x1_Meal_less => first | k_is | kernel_rfl | rfl | decide +kernel)
    (case x5_Meal_less => first | k_is | kernel_rfl | rfl | decide +kernel)
    (case x2_Meal_less => first | k_is | kernel_rfl | rfl | decide +kernel)
    (case x3_Meal_less => first | k_is | kernel_rfl | rfl | decide +kernel)
    (case x4_Meal_less => first | k_is | kernel_rfl | rfl | decide +kernel)
    (case x1_Meal_taking => first | k_is | kernel_rfl | rfl | decide +kernel)
    (case x5_Meal_taking => first | k_is | kernel_rfl | rfl | decide +kernel)
    (case x2_Meal_taking => first | k_is | kernel_rfl | rfl | decide +kernel)
    (case x3_Meal_taking => first | k_is | kernel_rfl | rfl | decide +kernel)
    (case x4_Meal_taking => first | k_is | kernel_rfl | rfl | decide +kernel)
    (case x1_Meal___add__ => first | k_is | kernel_rfl | rfl | decide +kernel)
    (case x5_Meal___add__ => first | k_is | kernel_rfl | rfl | decide +kernel)
    (case x2_Meal___add__ => first | k_is | kernel_rfl | rfl | decide +kernel)
    (case x3_Meal___add__ => first | k_is | kernel_rfl | rfl | decide +kernel)
    (case x4_Meal___add__ => first | k_is | kernel_rfl | rfl | decide +kernel)
    (case x1_Meal___eq__ => first | k_is | kernel_rfl | rfl | decide +kernel)
    (case x5_Meal___eq__ => first | k_is | kernel_rfl | rfl | decide +kernel)
    (case x2_Meal___eq__ => first | k_is | kernel_rfl | rfl | decide +kernel)
    (case x3_Meal___eq__ => first | k_is | kernel_rfl | rfl | decide +kernel)
    (case x4_Meal___eq__ => first | k_is | kernel_rfl | rfl | decide +kernel)
    (case x1_check_dishes => first | k_is | kernel_rfl | rfl | decide +kernel)
    (case x2_check_dishes => first | k_is | kernel_rfl | rfl | decide +kernel)
    (case x3_check_dishes => first | k_is | kernel_rfl | rfl | decide +kernel)
    (case x4_check_dishes => first | k_is | kernel_rfl | rfl | decide +kernel)
    (case x1_check_wishes => first | k_is | kernel_rfl | rfl | decide +kernel)
    (case x2_check_wishes => first | k_is | kernel_rfl | rfl | decide +kernel)
    (case x3_check_wishes => first | k_is | kernel_rfl | rfl | decide +kernel)
    (case x4_check_wishes => first | k_is | kernel_rfl | rfl | decide +kernel)
    (case x1_check_stations => first | k_is | kernel_rfl | rfl | decide +kernel)
    (case x2_check_stations => first | k_is | kernel_rfl | rfl | decide +kernel)
    (case x3_check_stations => first | k_is | kernel_rfl | rfl | decide +kernel)
    (case x4_check_stations => first | k_is | kernel_rfl | rfl | decide +kernel)
    (case x1__law_fresh => first | k_is | kernel_rfl | rfl | decide +kernel)
    (case x2__law_fresh => first | k_is | kernel_rfl | rfl | decide +kernel)
    (case x3__law_fresh => first | k_is | kernel_rfl | rfl | decide +kernel)
    (case x4__law_fresh => first | k_is | kernel_rfl | rfl | decide +kernel)
    (case x1__law_take => first | k_is | kernel_rfl | rfl | decide +kernel)
    (case x2__law_take => first | k_is | kernel_rfl | rfl | decide +kernel)
    (case x3__law_take => first | k_is | kernel_rfl | rfl | decide +kernel)
    (case x4__law_take => first | k_is | kernel_rfl | rfl | decide +kernel)
    (case x1__law_one => first | k_is | kernel_rfl | rfl | decide +kernel)
    (case x2__law_one => first | k_is | kernel_rfl | rfl | decide +kernel)
    (case x3__law_one => first | k_is | kernel_rfl | rfl | decide +kernel)
    (case x4__law_one => first | k_is | kernel_rfl | rfl | decide +kernel)
    (case x1__law_mix => first | k_is | kernel_rfl | rfl | decide +kernel)
    (case x2__law_mix => first | k_is | kernel_rfl | rfl | decide +kernel)
    (case x3__law_mix => first | k_is | kernel_rfl | rfl | decide +kernel)
    (case x4__law_mix => first | k_is | kernel_rfl | rfl | decide +kernel)
    (case x1__law_some => first | k_is | kernel_rfl | rfl | decide +kernel)
    (case x2__law_some => first | k_is | kernel_rfl | rfl | decide +kernel)
    (case x3__law_some => first | k_is | kernel_rfl | rfl | decide +kernel)
    (case x4__law_some => first | k_is | kernel_rfl | rfl | decide +kernel)
    (case x1__law_same => first | k_is | kernel_rfl | rfl | decide +kernel)
    (case x2__law_same => first | k_is | kernel_rfl | rfl | decide +kernel)
    (case x3__law_same => first | k_is | kernel_rfl | rfl | decide +kernel)
    (case x4__law_same => first | k_is | kernel_rfl | rfl | decide +kernel)
    (case x1__law_same_dict => first | k_is | kernel_rfl | rfl | decide +kernel)
    (case x2__law_same_dict => first | k_is | kernel_rfl | rfl | decide +kernel)
    (case x3__law_same_dict => first | k_is | kernel_rfl | rfl | decide +kernel)
    (case x4__law_same_dict => first | k_is | kernel_rfl | rfl | decide +kernel)
    (case x1__law_loose => first | k_is | kernel_rfl | rfl | decide +kernel)
    (case x2__law_loose => first | k_is | kernel_rfl | rfl | decide +kernel)
    (case x3__law_loose => first | k_is | kernel_rfl | rfl | decide +kernel)
    (case x4__law_loose => first | k_is | kernel_rfl | rfl | decide +kernel)
    (case x1__law_names => first | k_is | kernel_rfl | rfl | decide +kernel)
    (case x2__law_names => first | k_is | kernel_rfl | rfl | decide +kernel)
    (case x3__law_names => first | k_is | kernel_rfl | rfl | decide +kernel)
    (case x4__law_names => first | k_is | kernel_rfl | rfl | decide +kernel)
    (case x1__law_rising => first | k_is | kernel_rfl | rfl | decide +kernel)
    (case x2__law_rising => first | k_is | kernel_rfl | rfl | decide +kernel)
    (case x3__law_rising => first | k_is | kernel_rfl | rfl | decide +kernel)
    (case x4__law_rising => first | k_is | kernel_rfl | rfl | decide +kernel)
    (case x1__law_dishes => first | k_is | kernel_rfl | rfl | decide +kernel)
    (case x2__law_dishes => first | k_is | kernel_rfl | rfl | decide +kernel)
    (case x3__law_dishes => first | k_is | kernel_rfl | rfl | decide +kernel)
    (case x4__law_dishes => first | k_is | kernel_rfl | rfl | decide +kernel)
    (case x1__law_moment => first | k_is | kernel_rfl | rfl | decide +kernel)
    (case x2__law_moment => first | k_is | kernel_rfl | rfl | decide +kernel)
    (case x3__law_moment => first | k_is | kernel_rfl | rfl | decide +kernel)
    (case x4__law_moment => first | k_is | kernel_rfl | rfl | decide +kernel)
    (case x1__law_wishes => first | k_is | kernel_rfl | rfl | decide +kernel)
    (case x2__law_wishes => first | k_is | kernel_rfl | rfl | decide +kernel)
    (case x3__law_wishes => first | k_is | kernel_rfl | rfl | decide +kernel)
    (case x4__law_wishes => first | k_is | kernel_rfl | rfl | decide +kernel)
    (case x1__law_with => first | k_is | kernel_rfl | rfl | decide +kernel)
    (case x2__law_with => first | k_is | kernel_rfl | rfl | decide +kernel)
    (case x3__law_with => first | k_is | kernel_rfl | rfl | decide +kernel)
    (case x4__law_with => first | k_is | kernel_rfl | rfl | decide +kernel)
    (case x1__law_stations => first | k_is | kernel_rfl | rfl | decide +kernel)
    (case x2__law_stations => first | k_is | kernel_rfl | rfl | decide +kernel)
    (case x3__law_stations => first | k_is | kernel_rfl | rfl | decide +kernel)
    (case x4__law_stations => first | k_is | kernel_rfl | rfl | decide +kernel)
    (case x1__law_tried => first | k_is | kernel_rfl | rfl | decide +kernel)
    (case x2__law_tried => first | k_is | kernel_rfl | rfl | decide +kernel)
    (case x3__law_tried => first | k_is | kernel_rfl | rfl | decide +kernel)
    (case x4__law_tried => first | k_is | kernel_rfl | rfl | decide +kernel)
    (case x1__law_is_meal => first | k_is | kernel_rfl | rfl | decide +kernel)
    (case x2__law_is_meal => first | k_is | kernel_rfl | rfl | decide +kernel)
    (case x3__law_is_meal => first | k_is | kernel_rfl | rfl | decide +kernel)
    (case x4__law_is_meal => first | k_is | kernel_rfl | rfl | decide +kernel)
    (case x1__law_are_joined => first | k_is | kernel_rfl | rfl | decide +kernel)
    (case x2__law_are_joined => first | k_is | kernel_rfl | rfl | decide +kernel)
    (case x3__law_are_joined => first | k_is | kernel_rfl | rfl | decide +kernel)
    (case x4__law_are_joined => first | k_is | kernel_rfl | rfl | decide +kernel)
    (case x1_law => first | k_is | kernel_rfl | rfl | decide +kernel)
    (case x2_law => first | k_is | kernel_rfl | rfl | decide +kernel)
    (case x3_law => first | k_is | kernel_rfl | rfl | decide +kernel)
    (case x4_law => first | k_is | kernel_rfl | rfl | decide +kernel)
    (case x1_CLOCK => first | k_is | kernel_rfl | rfl | decide +kernel)
    (case x1_LETTERS => first | k_is | kernel_rfl | rfl | decide +kernel)
    (case x1_LONGEST_NAME => first | k_is | kernel_rfl | rfl | decide +kernel)
    (case x1_len => first | k_is | kernel_rfl | rfl | decide +kernel)
    (case x1_abs => first | k_is | kernel_rfl | rfl | decide +kernel)
    (case x1_int => first | k_is | kernel_rfl | rfl | decide +kernel)
    (case x1_list => first | k_is | kernel_rfl | rfl | decide +kernel)
    (case x1_tuple => first | k_is | kernel_rfl | rfl | decide +kernel)
    (case x1_bool => first | k_is | kernel_rfl | rfl | decide +kernel)
    (case x1_str => first | k_is | kernel_rfl | rfl | decide +kernel)
    (case x1_dict => first | k_is | kernel_rfl | rfl | decide +kernel)
    (case x1_isinstance => first | k_is | kernel_rfl | rfl | decide +kernel)
    (case x1_all => first | k_is | kernel_rfl | rfl | decide +kernel)
    (case x1_any => first | k_is | kernel_rfl | rfl | decide +kernel)
    (case x1_zip => first | k_is | kernel_rfl | rfl | decide +kernel)
    (case x1_enumerate => first | k_is | kernel_rfl | rfl | decide +kernel)
    (case x1_range => first | k_is | kernel_rfl | rfl | decide +kernel)
    (case x1_sorted => first | k_is | kernel_rfl | rfl | decide +kernel)
    (case x1_set => first | k_is | kernel_rfl | rfl | decide +kernel)
    (case nPP => first | k_is | kernel_rfl | rfl | decide +kernel)
    (case xT => first | k_is | kernel_rfl | rfl | decide +kernel)
    (case xS => first | k_is | kernel_rfl | rfl | decide +kernel)
    (case xW => first | k_is | kernel_rfl | rfl | decide +kernel)
    (case xE1 => first | k_is | kernel_rfl | rfl | decide +kernel)
    (case xE2 => first | k_is | kernel_rfl | rfl | decide +kernel)
    (case u1 => first | k_is | kernel_rfl | rfl | decide +kernel)
    (case u2 => first | k_is | kernel_rfl | rfl | decide +kernel)
    (case u3 => first | k_is | kernel_rfl | rfl | decide +kernel)
    (case u4 => first | k_is | kernel_rfl | rfl | decide +kernel)
    (case u5 => first | k_is | kernel_rfl | rfl | decide +kernel)
    (case u6 => first | k_is | kernel_rfl | rfl | decide +kernel)
    (case u7 => first | k_is | kernel_rfl | rfl | decide +kernel)
    (case u8 => first | k_is | kernel_rfl | rfl | decide +kernel)
    (case u9 => first | k_is | kernel_rfl | rfl | decide +kernel)
    (case u10 => first | k_is | kernel_rfl | rfl | decide +kernel)
    (case u11 => first | k_is | kernel_rfl | rfl | decide +kernel)
    (case u12 => first | k_is | kernel_rfl | rfl | decide +kernel)
    (case u13 => first | k_is | kernel_rfl | rfl | decide +kernel)
    (case u14 => first | k_is | kernel_rfl | rfl | decide +kernel)
    (case u15 => first | k_is | kernel_rfl | rfl | decide +kernel)
    (case u16 => first | k_is | kernel_rfl | rfl | decide +kernel)
    (case u17 => first | k_is | kernel_rfl | rfl | decide +kernel)
    (case u18 => first | k_is | kernel_rfl | rfl | decide +kernel)
    (case u19 => first | k_is | kernel_rfl | rfl | decide +kernel)
    all_goals exact Value.none
