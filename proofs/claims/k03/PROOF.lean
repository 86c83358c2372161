import PyProof.Rows.All
import Wide.All
import OpenK.AllK
import Wide.FinOn
import KE.KOpsOwn
import HandS.ForMost
import HandS.MethStar
import HandS.SlotsOwn
import HandS.Star
import HandS.More
import HandS.IsInst
import HandS.Property
import HandS.ClsMeth
import HandS.Conv
import HandS.Wide
import HandS.WideBits
import HandS.Flow
import HandS.Evl
import HandS.Zip
import HandS.Strs
import HandS.ExcInit
import HandS.WordsExc
import HandS.ExcIs
import HandS.Lambda
import KE.KExcIs
import KE.GoesEnum
import HandS.EndTab
import KE.KNestM

import PySem.Challenge.RW_modesdown_k03_modes_put_together

set_option Elab.async false
set_option linter.all false
set_option maxRecDepth 100000
set_option maxHeartbeats 4000000
namespace KC
open PySem PySem.W PySem.Calls PyProof.Rows
section
variable {prog : Program} {w : World} {A : Around} {E : Value → Shared → Prop} {s : Shared} {K : Frag} {x y C f g : Addr} {ox oy : Obj} {od oe : Option Obj} {nm : String} {Q : Value → Shared → Prop}
/-- an own operand on the left, one of the same class on the right -/
theorem b1_oo (X : K.In s.heap) (I : InstAt s.heap x ox C od) (J : InstAt s.heap y oy C oe) (hc : selfFirst K C = true) (hs : findIn K (.ref C) (PySem.dunder nm) = some (some (.ref f))) (hf : isFn K (.ref f) = true)
    (h : wpAny (model prog w) A (call (.ref f) [.ref x, .ref y]) (W.CmpBack Q) E s) : wpAny (model prog w) A (binaryOp1 nm (.ref x) (.ref y)) (fun r s' => ∃ v, r = some v ∧ Q v s') E s := by
  obtain ⟨cd, rest, hcd, hm⟩ := ksp_first hc
  have one := ksp_try X I hs hf h
  obtain ⟨hh, gg, d, tt, os⟩ := s
  have L1 : Looks (model prog w) hh (typeOf (.ref x)) (.ref C) := I.type
  have L2 : Looks (model prog w) hh (typeOf (.ref y)) (.ref C) := J.type
  have L3 : Looks (model prog w) hh (fillsNumberSlot (.ref C) nm) true := fills_K X hcd hm hs
  unfold binaryOp1
  refine wpAny_bind (L1.at (wpAny_bind (L2.at (wpAny_bind (L3.at ?_)))))
  simp only [beq_self_eq_true, if_true]
  ksp_lk
  refine wpAny_mono one (fun r s' hr => ?_) fun _ _ e => e
  obtain ⟨v, rfl, hq⟩ := hr
  ksp_lk
  exact ⟨v, rfl, hq⟩
/-- on the right a whole number -/
theorem b1_oi {i : Int} {t : Tok} {rc : Option Value} (X : K.In s.heap) (I : InstAt s.heap x ox C od) (hc : selfFirst K C = true)
    (hs : findIn K (.ref C) (PySem.dunder nm) = some (some (.ref f))) (hf : isFn K (.ref f) = true) (hr : findIn K (.ref C) (dunderR nm) = some rc) (hp : rc = none ∨ ∃ g : Addr, rc = some (.ref g))
    {fo ro : Option Value} (h1 : findIn K (.type "int") (PySem.dunder nm) = some fo) (h2 : findIn K (.type "int") (dunderR nm) = some ro) (hsub : subIn K (.type "int") (.ref C) = some false)
    (h : wpAny (model prog w) A (call (.ref f) [.ref x, .int i t]) (W.CmpBack Q) E s) : wpAny (model prog w) A (binaryOp1 nm (.ref x) (.int i t)) (fun r s' => ∃ v, r = some v ∧ Q v s') E s := by
  obtain ⟨cd, rest, hcd, hm⟩ := ksp_first hc
  have one := ksp_try X I hs hf h
  obtain ⟨hh, gg, d, tt, os⟩ := s
  have L1 : Looks (model prog w) hh (typeOf (.ref x)) (.ref C) := I.type
  have L2 : Looks (model prog w) hh (typeOf (.int i t)) (.type "int") := Looks.of_pure rfl
  have L3 : Looks (model prog w) hh (fillsNumberSlot (.ref C) nm) true := fills_K X hcd hm hs
  have L4 : Looks (model prog w) hh (fillsNumberSlot (.type "int") nm) ((fo.isSome && !isSeqSlot fo) || (ro.isSome && !isSeqSlot ro)) := ksp_fillsT X h1 h2
  have L5 : Looks (model prog w) hh (isSubtype (.type "int") (.ref C)) false := looks_subIn X hsub
  have L6 : Looks (model prog w) hh (numberSlotInPython (.ref C) nm) true := ksp_inPy X hs hr hp
  have L7 : Looks (model prog w) hh (numberSlotInPython (.type "int") nm) false := Looks.of_pure rfl
  have L8 : Looks (model prog w) hh (typeLookup (.type "int") (dunderR nm)) ro := looks_findIn X h2
  generalize ((fo.isSome && !isSeqSlot fo) || (ro.isSome && !isSeqSlot ro)) = right at L4
  have unlike : (Value.ref C == Value.type "int") = false := Bool.eq_false_iff.mpr fun q => by cases beq_iff_eq.mp q
  unfold binaryOp1
  refine wpAny_bind (L1.at (wpAny_bind (L2.at (wpAny_bind (L3.at ?_)))))
  simp only [unlike, Bool.false_eq_true, if_false]
  cases right with
  | false =>
    ksp_lk
    refine wpAny_mono one (fun r s' q => ?_) fun _ _ e => e
    obtain ⟨v, rfl, hq⟩ := q
    ksp_lk
    exact ⟨v, rfl, hq⟩
  | true =>
    ksp_lk
    refine wpAny_mono one (fun r s' q => ?_) fun _ _ e => e
    obtain ⟨v, rfl, hq⟩ := q
    ksp_lk
    exact ⟨v, rfl, hq⟩
/-- what a number's method says of an own operand: nothing -/
theorem tryM_int {i : Int} {t : Tok} {id : String} {B : Builtin} {F : Int → Int → Sem Fin} {name : String} {R : Option Value → Shared → Prop} (slot : Slot "int" (PySem.dunder nm) id) (entry : entryFor table id = some B) (args : ∀ a b : Value, argsOk id ⟨[a, b], []⟩) (hB : B = Builtin.Int.intBinary name F)
    (hx : s.heap.get? x = some ox) (hd : ox.data = .plain) (k : R none s) : wpAny (model prog w) A (tryMethod (.int i t) (PySem.dunder nm) (.ref x)) R E s := by
  unfold tryMethod
  refine wpAny_bind (wpAny_callSpecial?_slot (typeIs_int s i t) slot (wpAny_call_entry slot (typeIs_int s i t) entry ?_ (args _ _)))
  subst hB
  show wpAny (model prog w) A.in1 ((asInt? (.ref x)) >>= fun r => _) _ _ _
  refine wpAny_bind ?_
  unfold asInt?
  refine wpAny_bind (m := load x) (nd_load hx (wpAny_pure ?_))
  rw [hd]
  refine wpAny_pure ?_
  show wpAny (model prog w) A.in1 (do rule "int.binary.not-an-int"; ret Value.notImplemented) _ _ _
  exact wpAny_bind (wpAny_rule (wpAny_pure ⟨_, rfl, wpAny_pure k⟩))
/-- on the left a whole number -/
theorem b1_io {i : Int} {t : Tok} {id : String} {B : Builtin} {F : Int → Int → Sem Fin} {name : String} (X : K.In s.heap) (I : InstAt s.heap x ox C od) (hd : ox.data = .plain) (hc : selfFirst K C = true)
    (hs : findIn K (.ref C) (PySem.dunder nm) = some (some (.ref f))) (hr : findIn K (.ref C) (dunderR nm) = some (some (.ref g))) (hg : isFn K (.ref g) = true)
    (slot : Slot "int" (PySem.dunder nm) id) (entry : entryFor table id = some B) (args : ∀ a b : Value, argsOk id ⟨[a, b], []⟩) (hB : B = Builtin.Int.intBinary name F) (fills : fillsNumberSlot (.type "int") nm = pure true) (hsub : subIn K (.ref C) (.type "int") = some false)
    (h : wpAny (model prog w) A (call (.ref g) [.ref x, .int i t]) (W.CmpBack Q) E s) : wpAny (model prog w) A (binaryOp1 nm (.int i t) (.ref x)) (fun r s' => ∃ v, r = some v ∧ Q v s') E s := by
  obtain ⟨cd, rest, hcd, hm⟩ := ksp_first hc
  have one := ksp_try X I hr hg h
  have here : s.heap.get? x = some ox := I.1
  obtain ⟨hh, gg, d, tt, os⟩ := s
  have L1 : Looks (model prog w) hh (typeOf (.int i t)) (.type "int") := Looks.of_pure rfl
  have L2 : Looks (model prog w) hh (typeOf (.ref x)) (.ref C) := I.type
  have L3 : Looks (model prog w) hh (fillsNumberSlot (.type "int") nm) true := Looks.of_pure fills
  have L4 : Looks (model prog w) hh (fillsNumberSlot (.ref C) nm) true := fills_K X hcd hm hs
  have L5 : Looks (model prog w) hh (isSubtype (.ref C) (.type "int")) false := looks_subIn X hsub
  have L7 : Looks (model prog w) hh (numberSlotInPython (.type "int") nm) false := Looks.of_pure rfl
  have unlike : (Value.type "int" == Value.ref C) = false := Bool.eq_false_iff.mpr fun q => by cases beq_iff_eq.mp q
  unfold binaryOp1
  refine wpAny_bind (L1.at (wpAny_bind (L2.at (wpAny_bind (L3.at ?_)))))
  simp only [unlike, Bool.false_eq_true, if_false]
  ksp_lk
  refine tryM_int slot entry args hB here hd ?_
  ksp_lk
  refine wpAny_mono one (fun r s' q => ?_) fun _ _ e => e
  obtain ⟨v, rfl, hq⟩ := q
  ksp_lk
  exact ⟨v, rfl, hq⟩
theorem bin_of {op : Operator} {a b : Value} (one : wpAny (model prog w) A (binaryOp1 op.info.2 a b) (fun r s' => ∃ v, r = some v ∧ Q v s') E s) : wpAny (model prog w) A (binaryOp op a b) Q E s := by
  rcases hi : op.info with ⟨sym, nm'⟩
  rw [hi] at one
  simp only [binaryOp, hi]
  refine wpAny_holding (wpAny_bind (wpAny_mono one (fun r s' q => ?_) fun _ _ e => e))
  obtain ⟨v, rfl, hq⟩ := q
  exact wpAny_pure hq
theorem inp_of {op : Operator} {a b ta : Value} (La : Looks (model prog w) s.heap (typeOf a) ta) (Lf : Looks (model prog w) s.heap (fillsInplaceSlot ta op.info.2 (op == .Add)) false)
    (one : wpAny (model prog w) A (binaryOp1 op.info.2 a b) (fun r s' => ∃ v, r = some v ∧ Q v s') E s) : wpAny (model prog w) A (inplaceOp op a b) Q E s := by
  unfold inplaceOp
  refine wpAny_holding (wpAny_bind (La.here (wpAny_bind (Lf.here ?_))))
  simp only [Bool.false_eq_true, if_false]
  refine wpAny_bind (wpAny_mono one (fun r s' q => ?_) fun _ _ e => e)
  obtain ⟨v, rfl, hq⟩ := q
  exact wpAny_pure hq
theorem noI_own {cd : ClassData} {h : Heap} {M : Model} {add : Bool} (X : K.In h) (hc : clsIn K C = some cd) (hm : cd.mro = [.ref C, .type "object"]) (h1 : findIn K (.ref C) (dunderI nm) = some none) (h2 : findIn K (.type "object") (dunderI nm) = some none) : Looks M h (fillsInplaceSlot (.ref C) nm add) false := by
  intro A Q E s k q
  have Lm : Looks M h (mroOf (.ref C)) cd.mro := (looks_clsIn X hc).andThen (f := fun cd => pure cd.mro) .now
  have Lm' := Lm.keeps k
  have X' : K.In s.heap := X.keeps k
  have L1 : Looks M s.heap (typeLookup (.ref C) (dunderI nm)) none := looks_findIn X' h1
  have L2 : Looks M s.heap (typeLookup (.type "object") (dunderI nm)) none := looks_findIn X' h2
  unfold fillsInplaceSlot
  refine wpAny_bind (Lm'.here ?_)
  rw [hm, List.anyM_cons]
  refine wpAny_bind (wpAny_bind (L1.here ?_))
  refine wpAny_pure ?_
  rw [if_neg (by decide), List.anyM_cons]
  refine wpAny_bind (wpAny_bind (L2.here ?_))
  refine wpAny_pure ?_
  rw [if_neg (by decide)]
  exact wpAny_pure q
end
end KC
set_option Elab.async false
set_option linter.all false
set_option maxRecDepth 100000
set_option maxHeartbeats 4000000
namespace KC
open PySem PySem.Spec PyProof.Rows L2
/-- an own operator: f is its method, g the reflected one -/
structure BinF (K : PySem.W.Frag) (C f g : Addr) (nm : String) : Prop where
  first : PySem.W.selfFirst K C = true
  hs : PySem.W.findIn K (.ref C) (PySem.dunder nm) = some (some (.ref f))
  hf : PySem.W.isFn K (.ref f) = true
  hr : PySem.W.findIn K (.ref C) (dunderR nm) = some (some (.ref g))
  hg : PySem.W.isFn K (.ref g) = true
  h1 : ∃ fo, PySem.W.findIn K (.type "int") (PySem.dunder nm) = some fo
  h2 : ∃ ro, PySem.W.findIn K (.type "int") (dunderR nm) = some ro
  sub1 : PySem.W.subIn K (.type "int") (.ref C) = some false
  sub2 : PySem.W.subIn K (.ref C) (.type "int") = some false
  noI : ∃ cd, PySem.W.clsIn K C = some cd ∧ cd.mro = [.ref C, .type "object"]
  noF : PySem.W.findIn K (.ref C) (dunderI nm) = some none
  noO : PySem.W.findIn K (.type "object") (dunderI nm) = some none
/-- the same of whole numbers -/
structure BinI (nm : String) : Prop where
  at_ : ∃ (id : String) (B : Builtin) (F : Int → Int → Sem PySem.Fin) (name : String), Slot "int" (PySem.dunder nm) id ∧ entryFor table id = some B ∧ (∀ a b : Value, argsOk id ⟨[a, b], []⟩) ∧ B = Builtin.Int.intBinary name F
  fills : fillsNumberSlot (.type "int") nm = pure true
  noI : typeLookup (.type "int") (dunderI nm) = pure none
def rBinM (C : Addr) (spF spR : Sp) (E : XK) : R2 := fun x y H Q =>
  (∃ p dx fs, x = .ref p ∧ H p = some (.ins C dx fs) ∧ ((∃ q dy gs, y = .ref q ∧ H q = some (.ins C dy gs)) ∨ ∃ i, y = .int i) ∧ spF [x, y] H Q E) ∨
  (∃ i q dy gs, x = .int i ∧ y = .ref q ∧ H q = some (.ins C dy gs) ∧ spR [y, x] H Q E)
section
variable {X : Cx} {CX : CXT} {C f g : Addr} {n : Nat} {spF spR : Sp} {E : XK} {nm : String} {op : Operator}
theorem bin_one (b : BinF X.K C f g nm) (bi : BinI nm) (F : FnR X.prog X.w X.K X.mg X.base CX n f spF) (G : FnR X.prog X.w X.K X.mg X.base CX n g spR) (room : Room n X.A) (hx : Passes CX X E)
    {pins : List (Addr × Obj)} {σ : L2.St} {H : Hp} {s : Shared} {x y : V} {v u : Value} {Q : VK} (I : Inv X pins σ H s) (rx : RelV x v) (ry : RelV y u) (h : rBinM C spF spR E x y H Q) :
    wpAny (model X.prog X.w) X.A (PySem.binaryOp1 nm v u) (fun r s' => ∃ v, r = some v ∧ EP X pins σ Q v s') X.xe s := by
  have fin : ∀ {m : Value → Shared → Prop} {r : Value} {s' : Shared}, EP X pins σ Q r s' → PySem.W.CmpBack (EP X pins σ Q) r s' := fun got => by
    obtain ⟨z, H', I', rz, q⟩ := got
    exact SlX.cmpback rz ⟨z, H', I', rz, q⟩
  rcases h with ⟨p, dx, fs, rfl, hp, hy, want⟩ | ⟨i, q, dy, gs, rfl, rfl, hq, want⟩
  · obtain rfl : v = Value.ref p := rx
    obtain ⟨o1, d1, J1, _⟩ := StX.insC_at (X := X) I (.inr ⟨dx, fs, hp⟩)
    rcases hy with ⟨q, dy, gs, rfl, hq⟩ | ⟨i, rfl⟩
    · obtain rfl : u = Value.ref q := ry
      obtain ⟨o2, d2, J2, _⟩ := StX.insC_at (X := X) I (.inr ⟨dy, gs, hq⟩)
      exact b1_oo I.kIn J1 J2 b.first b.hs b.hf (wpAny_mono (wpAny_call (run_fnR (us := [.ref p, .ref q]) (vs := [.ref p, .ref q]) F room hx I (.cons rfl (.cons rfl .nil)) want)) (fun r s' got => fin (m := fun _ _ => True) got) fun _ _ e => e)
    · obtain ⟨t, rfl⟩ := ry
      obtain ⟨fo, h1⟩ := b.h1
      obtain ⟨ro, h2⟩ := b.h2
      exact b1_oi I.kIn J1 b.first b.hs b.hf b.hr (.inr ⟨g, rfl⟩) h1 h2 b.sub1 (wpAny_mono (wpAny_call (run_fnR (us := [.ref p, .int i t]) (vs := [.ref p, .int i]) F room hx I (.cons rfl (.cons ⟨t, rfl⟩ .nil)) want)) (fun r s' got => fin (m := fun _ _ => True) got) fun _ _ e => e)
  · obtain rfl : u = Value.ref q := ry
    obtain ⟨t, rfl⟩ := rx
    obtain ⟨o2, d2, J2, hd⟩ := StX.insC_at (X := X) I (.inr ⟨dy, gs, hq⟩)
    obtain ⟨id, B, Fn, name, slot, entry, args, hB⟩ := bi.at_
    exact b1_io I.kIn J2 hd b.first b.hs b.hr b.hg slot entry args hB bi.fills b.sub2 (wpAny_mono (wpAny_call (run_fnR (us := [.ref q, .int i t]) (vs := [.ref q, .int i]) G room hx I (.cons rfl (.cons ⟨t, rfl⟩ .nil)) want)) (fun r s' got => fin (m := fun _ _ => True) got) fun _ _ e => e)
/-- an own operand on the left alone -/
def rBinF (C : Addr) (spF : Sp) (E : XK) : R2 := fun x y H Q => ∃ p dx fs, x = .ref p ∧ H p = some (.ins C dx fs) ∧ ((∃ q dy gs, y = .ref q ∧ H q = some (.ins C dy gs)) ∨ ∃ i, y = .int i) ∧ spF [x, y] H Q E
theorem op_binF (hop : op.info.2 = nm) (b : BinF X.K C f g nm) (bi : BinI nm) (F : FnR X.prog X.w X.K X.mg X.base CX n f spF) (room : Room n X.A) (hx : Passes CX X E) : OpR X (binaryOp op) (rBinF C spF E) := by
  subst hop
  intro pins s σ H x y v u Q I rx ry h
  exact bin_of (bin_one (spR := fun _ _ _ _ => False) b bi F (fun _ _ _ _ _ _ _ _ _ _ _ z => z.elim) room hx I rx ry (.inl h))
theorem op_binM (hop : op.info.2 = nm) (b : BinF X.K C f g nm) (bi : BinI nm) (F : FnR X.prog X.w X.K X.mg X.base CX n f spF) (G : FnR X.prog X.w X.K X.mg X.base CX n g spR) (room : Room n X.A) (hx : Passes CX X E) : OpR X (binaryOp op) (rBinM C spF spR E) := by
  subst hop
  intro pins s σ H x y v u Q I rx ry h
  exact bin_of (bin_one b bi F G room hx I rx ry h)
theorem ip_binM (hop : op.info.2 = nm) (b : BinF X.K C f g nm) (bi : BinI nm) (F : FnR X.prog X.w X.K X.mg X.base CX n f spF) (G : FnR X.prog X.w X.K X.mg X.base CX n g spR) (room : Room n X.A) (hx : Passes CX X E) : PIp X op (rBinM C spF spR E) := by
  subst hop
  intro pins s σ H x y v u Q I rx ry h
  have one := bin_one b bi F G room hx I rx ry h
  rcases id h with ⟨p, dx, fs, rfl, hp, _, _⟩ | ⟨i, q, dy, gs, rfl, _, _, _⟩
  · obtain rfl : v = Value.ref p := rx
    obtain ⟨o1, d1, J1, _⟩ := StX.insC_at (X := X) I (.inr ⟨dx, fs, hp⟩)
    obtain ⟨cd, hc, hm⟩ := b.noI
    exact inp_of J1.type (noI_own I.kIn hc hm b.noF b.noO) one
  · obtain ⟨t, rfl⟩ := rx
    have hfi : PySem.fillsInplaceSlot (.type "int") op.info.2 (op == .Add) = pure false := by
      unfold PySem.fillsInplaceSlot
      show (typeLookup (.type "int") (dunderI op.info.2) >>= fun fi => pure (fi.isSome && !isSeqSlot fi)) = pure false
      rw [bi.noI]
      rfl
    exact inp_of (ta := .type "int") (PySem.W.Looks.of_pure rfl) (PySem.W.Looks.of_pure hfi) one
/-- x in y, y an own instance whose method answers with a bool -/
def rInOwn (C : Addr) (sp : Sp) (E : XK) : R2 := fun x y H Q => ∃ q dy gs, y = .ref q ∧ H q = some (.ins C dy gs) ∧ sp [y, x] H (fun z H' => ∃ b, z = .bl b ∧ Q (.bl b) H') E
theorem op_inOwn (hs : PySem.W.findIn X.K (.ref C) "__contains__" = some (some (.ref f))) (hf : PySem.W.isFn X.K (.ref f) = true) (F : FnR X.prog X.w X.K X.mg X.base CX n f spF) (room : Room n X.A) (hx : Passes CX X E) : OpR X (compareOp .In) (rInOwn C spF E) := by
  intro pins s σ H x y v u Q I rx ry ⟨q, dy, gs, ey, hq, want⟩
  subst ey
  obtain rfl : u = Value.ref q := ry
  obtain ⟨o2, d2, J2, _⟩ := StX.insC_at (X := X) I (.inr ⟨dy, gs, hq⟩)
  obtain ⟨m, hF⟩ := I.fr
  refine PySem.W.in_K hF I.ok.mod.kin J2 hs hf (wpAny_mono (wpAny_call (run_fnR (us := [.ref q, v]) (vs := [.ref q, x]) F room hx I (.cons rfl (.cons rx .nil)) want)) (fun r s' got => ?_) fun _ _ e => e)
  obtain ⟨z, H', I', rz, b, rfl, k⟩ := got
  obtain rfl : r = Value.bool b := rz
  exact wpAny_pure ⟨.bl b, H', I', rfl, k⟩
/-- ~x of an own instance -/
def rInv (C : Addr) (sp : Sp) (E : XK) : V → Hp → VK → Prop := fun x H Q => ∃ q dy gs, x = .ref q ∧ H q = some (.ins C dy gs) ∧ sp [x] H Q E
theorem un_invOwn (hs : PySem.W.findIn X.K (.ref C) "__invert__" = some (some (.ref f))) (hf : PySem.W.isFn X.K (.ref f) = true) (F : FnR X.prog X.w X.K X.mg X.base CX n f spF) (room : Room n X.A) (hx : Passes CX X E) : UnR X (unaryOp .Invert) (rInv C spF E) := by
  intro pins s σ H x v Q I rx ⟨q, dy, gs, ex, hq, want⟩
  subst ex
  obtain rfl : v = Value.ref q := rx
  obtain ⟨o2, d2, J2, _⟩ := StX.insC_at (X := X) I (.inr ⟨dy, gs, hq⟩)
  obtain ⟨m, hF⟩ := I.fr
  exact PySem.W.ksp_inv hF I.ok.mod.kin J2 hs hf (wpAny_call (run_fnR (us := [.ref q]) (vs := [.ref q]) F room hx I (.cons rfl .nil) want))
end
theorem bi_or : BinI "or" := ⟨⟨_, _, _, _, slot_int_or, entry_int_or, args_int_or, rfl⟩, fills_int_or, no_int_ior⟩
theorem bi_and : BinI "and" := ⟨⟨_, _, _, _, slot_int_and, entry_int_and, args_int_and, rfl⟩, fills_int_and, no_int_iand⟩
theorem bi_xor : BinI "xor" := ⟨⟨_, _, _, _, slot_int_xor, entry_int_xor, args_int_xor, rfl⟩, fills_int_xor, no_int_ixor⟩
end KC
set_option Elab.async false
set_option linter.all false
set_option maxRecDepth 100000
set_option maxHeartbeats 4000000
namespace KC
open PySem L2
def top (i : Nat) : Stmt := PySem.Challenge.pw_modesdown_k03_modes_put_together.main.body.getD i (.Pass ⟨0, 0, 0, 0⟩)
abbrev s__wall : Stmt := top 0
abbrev s_is_whole : Stmt := top 2
abbrev s_is_whole_to : Stmt := top 3
abbrev s_BadModeD_initD : Stmt := inClass (top 8) 0
abbrev s_BadTextD_initD : Stmt := inClass (top 9) 0
abbrev s_ModeD_initD : Stmt := inClass (top 13) 1
abbrev s_Mode_read : Stmt := inClass (top 13) 2
abbrev s_Mode_of : Stmt := inClass (top 13) 3
abbrev s_Mode_uniform : Stmt := inClass (top 13) 4
abbrev s_Mode_number : Stmt := inClass (top 13) 5
abbrev s_Mode_digits : Stmt := inClass (top 13) 6
abbrev s_Mode_pattern : Stmt := inClass (top 13) 7
abbrev s_Mode_with_pattern : Stmt := inClass (top 13) 8
abbrev s_ModeD_orD : Stmt := inClass (top 13) 9
abbrev s_ModeD_rorD : Stmt := inClass (top 13) 10
abbrev s_ModeD_andD : Stmt := inClass (top 13) 11
abbrev s_ModeD_randD : Stmt := inClass (top 13) 12
abbrev s_ModeD_xorD : Stmt := inClass (top 13) 13
abbrev s_ModeD_rxorD : Stmt := inClass (top 13) 14
abbrev s_ModeD_invertD : Stmt := inClass (top 13) 15
abbrev s_ModeD_containsD : Stmt := inClass (top 13) 16
abbrev s_ModeD_lenD : Stmt := inClass (top 13) 17
abbrev s_ModeD_boolD : Stmt := inClass (top 13) 18
abbrev s_ModeD_eqD : Stmt := inClass (top 13) 19
abbrev s_ModeD_strD : Stmt := inClass (top 13) 20
abbrev s_ModeD_reprD : Stmt := inClass (top 13) 21
abbrev s_may_stand : Stmt := top 14
abbrev s_number_of : Stmt := top 15
abbrev s__law_bag : Stmt := top 17
abbrev s__law_draw : Stmt := top 18
abbrev s__law_same : Stmt := top 19
abbrev s__law_heard : Stmt := top 20
abbrev s__law_put : Stmt := top 21
abbrev s__law_put_in : Stmt := top 22
abbrev s__law_bits : Stmt := top 23
abbrev s__law_is_mode : Stmt := top 24
abbrev s__law_right : Stmt := top 25
abbrev s_law : Stmt := top 26
abbrev n__wall : List Str := ["k"]
theorem sc__wall : FnScope n__wall ["k"] (defScope s__wall) := ⟨rfl, rfl, rfl, by decide +kernel, rfl, by decide +kernel, by decide +kernel⟩
abbrev n_is_whole : List Str := ["value"]
theorem sc_is_whole : FnScope n_is_whole ["value"] (defScope s_is_whole) := ⟨rfl, rfl, rfl, by decide +kernel, rfl, by decide +kernel, by decide +kernel⟩
abbrev n_is_whole_to : List Str := ["value", "most"]
theorem sc_is_whole_to : FnScope n_is_whole_to ["value", "most"] (defScope s_is_whole_to) := ⟨rfl, rfl, rfl, by decide +kernel, rfl, by decide +kernel, by decide +kernel⟩
abbrev n_BadModeD_initD : List Str := ["self", "part"]
theorem sc_BadModeD_initD : FnScope n_BadModeD_initD ["self", "part"] (defScope s_BadModeD_initD) := ⟨rfl, rfl, rfl, by decide +kernel, rfl, by decide +kernel, by decide +kernel⟩
abbrev n_BadTextD_initD : List Str := ["self", "line", "word"]
theorem sc_BadTextD_initD : FnScope n_BadTextD_initD ["self", "line", "word"] (defScope s_BadTextD_initD) := ⟨rfl, rfl, rfl, by decide +kernel, rfl, by decide +kernel, by decide +kernel⟩
abbrev n_ModeD_initD : List Str := ["self", "number"]
theorem sc_ModeD_initD : FnScope n_ModeD_initD ["self", "number"] (defScope s_ModeD_initD) := ⟨rfl, rfl, rfl, by decide +kernel, rfl, by decide +kernel, by decide +kernel⟩
abbrev n_Mode_read : List Str := ["cls", "text", "number", "at", "sign"]
theorem sc_Mode_read : FnScope n_Mode_read ["cls", "text"] (defScope s_Mode_read) := ⟨rfl, rfl, rfl, by decide +kernel, rfl, by decide +kernel, by decide +kernel⟩
abbrev n_Mode_of : List Str := ["owner", "group", "others", "part", "digit"]
theorem sc_Mode_of : FnScope n_Mode_of ["owner", "group", "others"] (defScope s_Mode_of) := ⟨rfl, rfl, rfl, by decide +kernel, rfl, by decide +kernel, by decide +kernel⟩
abbrev n_Mode_uniform : List Str := ["pattern"]
theorem sc_Mode_uniform : FnScope n_Mode_uniform ["pattern"] (defScope s_Mode_uniform) := ⟨rfl, rfl, rfl, by decide +kernel, rfl, by decide +kernel, by decide +kernel⟩
abbrev n_Mode_number : List Str := ["self"]
theorem sc_Mode_number : FnScope n_Mode_number ["self"] (defScope s_Mode_number) := ⟨rfl, rfl, rfl, by decide +kernel, rfl, by decide +kernel, by decide +kernel⟩
abbrev n_Mode_digits : List Str := ["self"]
theorem sc_Mode_digits : FnScope n_Mode_digits ["self"] (defScope s_Mode_digits) := ⟨rfl, rfl, rfl, by decide +kernel, rfl, by decide +kernel, by decide +kernel⟩
abbrev n_Mode_pattern : List Str := ["self", "letter"]
theorem sc_Mode_pattern : FnScope n_Mode_pattern ["self", "letter"] (defScope s_Mode_pattern) := ⟨rfl, rfl, rfl, by decide +kernel, rfl, by decide +kernel, by decide +kernel⟩
abbrev n_Mode_with_pattern : List Str := ["self", "letter", "pattern"]
theorem sc_Mode_with_pattern : FnScope n_Mode_with_pattern ["self", "letter", "pattern"] (defScope s_Mode_with_pattern) := ⟨rfl, rfl, rfl, by decide +kernel, rfl, by decide +kernel, by decide +kernel⟩
abbrev n_ModeD_orD : List Str := ["self", "other"]
theorem sc_ModeD_orD : FnScope n_ModeD_orD ["self", "other"] (defScope s_ModeD_orD) := ⟨rfl, rfl, rfl, by decide +kernel, rfl, by decide +kernel, by decide +kernel⟩
abbrev n_ModeD_rorD : List Str := ["self", "other"]
theorem sc_ModeD_rorD : FnScope n_ModeD_rorD ["self", "other"] (defScope s_ModeD_rorD) := ⟨rfl, rfl, rfl, by decide +kernel, rfl, by decide +kernel, by decide +kernel⟩
abbrev n_ModeD_andD : List Str := ["self", "other"]
theorem sc_ModeD_andD : FnScope n_ModeD_andD ["self", "other"] (defScope s_ModeD_andD) := ⟨rfl, rfl, rfl, by decide +kernel, rfl, by decide +kernel, by decide +kernel⟩
abbrev n_ModeD_randD : List Str := ["self", "other"]
theorem sc_ModeD_randD : FnScope n_ModeD_randD ["self", "other"] (defScope s_ModeD_randD) := ⟨rfl, rfl, rfl, by decide +kernel, rfl, by decide +kernel, by decide +kernel⟩
abbrev n_ModeD_xorD : List Str := ["self", "other"]
theorem sc_ModeD_xorD : FnScope n_ModeD_xorD ["self", "other"] (defScope s_ModeD_xorD) := ⟨rfl, rfl, rfl, by decide +kernel, rfl, by decide +kernel, by decide +kernel⟩
abbrev n_ModeD_rxorD : List Str := ["self", "other"]
theorem sc_ModeD_rxorD : FnScope n_ModeD_rxorD ["self", "other"] (defScope s_ModeD_rxorD) := ⟨rfl, rfl, rfl, by decide +kernel, rfl, by decide +kernel, by decide +kernel⟩
abbrev n_ModeD_invertD : List Str := ["self"]
theorem sc_ModeD_invertD : FnScope n_ModeD_invertD ["self"] (defScope s_ModeD_invertD) := ⟨rfl, rfl, rfl, by decide +kernel, rfl, by decide +kernel, by decide +kernel⟩
abbrev n_ModeD_containsD : List Str := ["self", "bit", "bits"]
theorem sc_ModeD_containsD : FnScope n_ModeD_containsD ["self", "bit"] (defScope s_ModeD_containsD) := ⟨rfl, rfl, rfl, by decide +kernel, rfl, by decide +kernel, by decide +kernel⟩
abbrev n_ModeD_lenD : List Str := ["self", "bit"]
theorem sc_ModeD_lenD : FnScope n_ModeD_lenD ["self"] (defScope s_ModeD_lenD) := ⟨rfl, rfl, rfl, by decide +kernel, rfl, by decide +kernel, by decide +kernel⟩
abbrev n_ModeD_boolD : List Str := ["self"]
theorem sc_ModeD_boolD : FnScope n_ModeD_boolD ["self"] (defScope s_ModeD_boolD) := ⟨rfl, rfl, rfl, by decide +kernel, rfl, by decide +kernel, by decide +kernel⟩
abbrev n_ModeD_eqD : List Str := ["self", "other"]
theorem sc_ModeD_eqD : FnScope n_ModeD_eqD ["self", "other"] (defScope s_ModeD_eqD) := ⟨rfl, rfl, rfl, by decide +kernel, rfl, by decide +kernel, by decide +kernel⟩
abbrev n_ModeD_strD : List Str := ["self", "sign", "bit"]
theorem sc_ModeD_strD : FnScope n_ModeD_strD ["self"] (defScope s_ModeD_strD) := ⟨rfl, rfl, rfl, by decide +kernel, rfl, by decide +kernel, by decide +kernel⟩
abbrev n_ModeD_reprD : List Str := ["self"]
theorem sc_ModeD_reprD : FnScope n_ModeD_reprD ["self"] (defScope s_ModeD_reprD) := ⟨rfl, rfl, rfl, by decide +kernel, rfl, by decide +kernel, by decide +kernel⟩
abbrev n_may_stand : List Str := ["value"]
theorem sc_may_stand : FnScope n_may_stand ["value"] (defScope s_may_stand) := ⟨rfl, rfl, rfl, by decide +kernel, rfl, by decide +kernel, by decide +kernel⟩
abbrev n_number_of : List Str := ["mode"]
theorem sc_number_of : FnScope n_number_of ["mode"] (defScope s_number_of) := ⟨rfl, rfl, rfl, by decide +kernel, rfl, by decide +kernel, by decide +kernel⟩
abbrev n__law_bag : List Str := ["_law_script", "_law_state", "_law_cell"]
theorem sc__law_bag : FnScope n__law_bag ["_law_script"] (defScope s__law_bag) := ⟨rfl, rfl, rfl, by decide +kernel, rfl, by decide +kernel, by decide +kernel⟩
abbrev n__law_draw : List Str := ["_law_bag_here", "_law_limit", "_law_cell", "_law_mixed", "_law_found"]
theorem sc__law_draw : FnScope n__law_draw ["_law_bag_here", "_law_limit"] (defScope s__law_draw) := ⟨rfl, rfl, rfl, by decide +kernel, rfl, by decide +kernel, by decide +kernel⟩
abbrev n__law_same : List Str := ["_law_actual", "_law_expected", "_law_k"]
theorem sc__law_same : FnScope n__law_same ["_law_actual", "_law_expected"] (defScope s__law_same) := ⟨rfl, rfl, rfl, by decide +kernel, rfl, by decide +kernel, by decide +kernel⟩
abbrev n__law_heard : List Str := ["_law_ask", "error", "_law_marks"]
theorem sc__law_heard : FnScope n__law_heard ["_law_ask"] (defScope s__law_heard) := ⟨rfl, rfl, rfl, by decide +kernel, rfl, by decide +kernel, by decide +kernel⟩
abbrev n__law_put : List Str := ["_law_kind", "_law_one", "_law_other"]
theorem sc__law_put : FnScope n__law_put ["_law_kind", "_law_one", "_law_other"] (defScope s__law_put) := ⟨rfl, rfl, rfl, by decide +kernel, rfl, by decide +kernel, by decide +kernel⟩
abbrev n__law_put_in : List Str := ["_law_kind", "_law_one", "_law_other", "_law_found"]
theorem sc__law_put_in : FnScope n__law_put_in ["_law_kind", "_law_one", "_law_other"] (defScope s__law_put_in) := ⟨rfl, rfl, rfl, by decide +kernel, rfl, by decide +kernel, by decide +kernel⟩
abbrev n__law_bits : List Str := ["_law_kind", "_law_one", "_law_other", "_law_found", "_law_at", "_law_a", "_law_b"]
theorem sc__law_bits : FnScope n__law_bits ["_law_kind", "_law_one", "_law_other"] (defScope s__law_bits) := ⟨rfl, rfl, rfl, by decide +kernel, rfl, by decide +kernel, by decide +kernel⟩
abbrev n__law_is_mode : List Str := ["_law_found", "_law_number"]
theorem sc__law_is_mode : FnScope n__law_is_mode ["_law_found", "_law_number"] (defScope s__law_is_mode) := ⟨rfl, rfl, rfl, by decide +kernel, rfl, by decide +kernel, by decide +kernel⟩
abbrev n__law_right : List Str := ["_law_kind", "_law_a", "_law_b", "_law_due", "_law_other", "_law_told", "_law_odd", "_law_one"]
theorem sc__law_right : FnScope n__law_right ["_law_kind", "_law_a", "_law_b"] (defScope s__law_right) := ⟨rfl, rfl, rfl, by decide +kernel, rfl, by decide +kernel, by decide +kernel⟩
abbrev n_law : List Str := ["_law_script", "_law_bag_here", "_law_k", "_law_a", "_law_b", "_law_kind", "_law_due", "_law_odd"]
theorem sc_law : FnScope n_law ["_law_script"] (defScope s_law) := ⟨rfl, rfl, rfl, by decide +kernel, rfl, by decide +kernel, by decide +kernel⟩
end KC
set_option Elab.async false
set_option linter.all false
set_option maxRecDepth 100000
set_option maxHeartbeats 4000000
namespace KC
open PySem PySem.Spec PyProof.Rows L2 Evl
theorem all_nat {n : Nat} {p : Nat → Bool} (h : (List.range n).all p = true) : ∀ i, i < n → p i = true := fun i hi => List.all_eq_true.mp h i (List.mem_range.mpr hi)
structure Ads where
  f_is_whole : Addr
  d_is_whole : FuncData
  f_is_whole_to : Addr
  d_is_whole_to : FuncData
  f_may_stand : Addr
  d_may_stand : FuncData
  f_number_of : Addr
  d_number_of : FuncData
  f__law_bag : Addr
  d__law_bag : FuncData
  f__law_draw : Addr
  d__law_draw : FuncData
  f__law_same : Addr
  d__law_same : FuncData
  f__law_put : Addr
  d__law_put : FuncData
  f__law_put_in : Addr
  d__law_put_in : FuncData
  f__law_bits : Addr
  d__law_bits : FuncData
  f__law_is_mode : Addr
  d__law_is_mode : FuncData
  f__law_right : Addr
  d__law_right : FuncData
  f_law : Addr
  d_law : FuncData
  f_Mode : Addr
  f_ModeD_initD : Addr
  d_ModeD_initD : FuncData
  f_Mode_number : Addr
  d_Mode_number : FuncData
  p_Mode_number : Addr
  f_ModeD_orD : Addr
  d_ModeD_orD : FuncData
  f_ModeD_rorD : Addr
  d_ModeD_rorD : FuncData
  f_ModeD_andD : Addr
  d_ModeD_andD : FuncData
  f_ModeD_randD : Addr
  d_ModeD_randD : FuncData
  f_ModeD_xorD : Addr
  d_ModeD_xorD : FuncData
  f_ModeD_rxorD : Addr
  d_ModeD_rxorD : FuncData
  f_ModeD_invertD : Addr
  d_ModeD_invertD : FuncData
  f_ModeD_containsD : Addr
  d_ModeD_containsD : FuncData
  f_ModeD_strD : Addr
  d_ModeD_strD : FuncData
  k_NINE_BITS : Addr
  x_BadMode : Addr
  x_BadInput : Addr
  x_NoWay : Addr
  x_BadText : Addr
  f__law_heard : Addr
  d__law_heard : FuncData
  x_ModesError : Addr
  f_BadModeD_initD : Addr
  d_BadModeD_initD : FuncData
  cR : Addr
  PR : Addr
structure Txt (w : World) (K : PySem.W.Frag) (mg : Str → Option Value) (a : Ads) : Prop where
  b_ValueError : mg "ValueError" = none
  b_isinstance : mg "isinstance" = none
  b_int : mg "int" = none
  b_bool : mg "bool" = none
  b_str : mg "str" = none
  b_list : mg "list" = none
  b_len : mg "len" = none
  b_abs : mg "abs" = none
  b_range : mg "range" = none
  b_tuple : mg "tuple" = none
  b_zip : mg "zip" = none
  mg_is_whole : mg "is_whole" = some (.ref a.f_is_whole)
  fn_is_whole : Fun K "is_whole" "is_whole" s_is_whole a.f_is_whole a.d_is_whole
  mg_is_whole_to : mg "is_whole_to" = some (.ref a.f_is_whole_to)
  fn_is_whole_to : Fun K "is_whole_to" "is_whole_to" s_is_whole_to a.f_is_whole_to a.d_is_whole_to
  mg_may_stand : mg "may_stand" = some (.ref a.f_may_stand)
  fn_may_stand : Fun K "may_stand" "may_stand" s_may_stand a.f_may_stand a.d_may_stand
  mg_number_of : mg "number_of" = some (.ref a.f_number_of)
  fn_number_of : Fun K "number_of" "number_of" s_number_of a.f_number_of a.d_number_of
  mg__law_bag : mg "_law_bag" = some (.ref a.f__law_bag)
  fn__law_bag : Fun K "_law_bag" "_law_bag" s__law_bag a.f__law_bag a.d__law_bag
  mg__law_draw : mg "_law_draw" = some (.ref a.f__law_draw)
  fn__law_draw : Fun K "_law_draw" "_law_draw" s__law_draw a.f__law_draw a.d__law_draw
  mg__law_same : mg "_law_same" = some (.ref a.f__law_same)
  fn__law_same : Fun K "_law_same" "_law_same" s__law_same a.f__law_same a.d__law_same
  mg__law_put : mg "_law_put" = some (.ref a.f__law_put)
  fn__law_put : Fun K "_law_put" "_law_put" s__law_put a.f__law_put a.d__law_put
  mg__law_put_in : mg "_law_put_in" = some (.ref a.f__law_put_in)
  fn__law_put_in : Fun K "_law_put_in" "_law_put_in" s__law_put_in a.f__law_put_in a.d__law_put_in
  mg__law_bits : mg "_law_bits" = some (.ref a.f__law_bits)
  fn__law_bits : Fun K "_law_bits" "_law_bits" s__law_bits a.f__law_bits a.d__law_bits
  mg__law_is_mode : mg "_law_is_mode" = some (.ref a.f__law_is_mode)
  fn__law_is_mode : Fun K "_law_is_mode" "_law_is_mode" s__law_is_mode a.f__law_is_mode a.d__law_is_mode
  mg__law_right : mg "_law_right" = some (.ref a.f__law_right)
  fn__law_right : Fun K "_law_right" "_law_right" s__law_right a.f__law_right a.d__law_right
  mg_law : mg "law" = some (.ref a.f_law)
  fn_law : Fun K "law" "law" s_law a.f_law a.d_law
  mg_Mode : mg "Mode" = some (.ref a.f_Mode)
  c_Mode : Cls K a.f_Mode
  n_number_Mode : NoAttr K a.f_Mode "_number"
  mk_Mode : Mk K a.f_Mode a.f_ModeD_initD
  fn_ModeD_initD : Fun K "__init__" "Mode.__init__" s_ModeD_initD a.f_ModeD_initD a.d_ModeD_initD
  p_Mode_number : PropOf K a.f_Mode "number" a.p_Mode_number a.f_Mode_number
  fn_Mode_number : Fun K "number" "Mode.number" s_Mode_number a.f_Mode_number a.d_Mode_number
  m_ModeD_orD : Meth K a.f_Mode "__or__" a.f_ModeD_orD
  fn_ModeD_orD : Fun K "__or__" "Mode.__or__" s_ModeD_orD a.f_ModeD_orD a.d_ModeD_orD
  m_ModeD_rorD : Meth K a.f_Mode "__ror__" a.f_ModeD_rorD
  fn_ModeD_rorD : Fun K "__ror__" "Mode.__ror__" s_ModeD_rorD a.f_ModeD_rorD a.d_ModeD_rorD
  m_ModeD_andD : Meth K a.f_Mode "__and__" a.f_ModeD_andD
  fn_ModeD_andD : Fun K "__and__" "Mode.__and__" s_ModeD_andD a.f_ModeD_andD a.d_ModeD_andD
  m_ModeD_randD : Meth K a.f_Mode "__rand__" a.f_ModeD_randD
  fn_ModeD_randD : Fun K "__rand__" "Mode.__rand__" s_ModeD_randD a.f_ModeD_randD a.d_ModeD_randD
  m_ModeD_xorD : Meth K a.f_Mode "__xor__" a.f_ModeD_xorD
  fn_ModeD_xorD : Fun K "__xor__" "Mode.__xor__" s_ModeD_xorD a.f_ModeD_xorD a.d_ModeD_xorD
  m_ModeD_rxorD : Meth K a.f_Mode "__rxor__" a.f_ModeD_rxorD
  fn_ModeD_rxorD : Fun K "__rxor__" "Mode.__rxor__" s_ModeD_rxorD a.f_ModeD_rxorD a.d_ModeD_rxorD
  m_ModeD_invertD : Meth K a.f_Mode "__invert__" a.f_ModeD_invertD
  fn_ModeD_invertD : Fun K "__invert__" "Mode.__invert__" s_ModeD_invertD a.f_ModeD_invertD a.d_ModeD_invertD
  m_ModeD_containsD : Meth K a.f_Mode "__contains__" a.f_ModeD_containsD
  fn_ModeD_containsD : Fun K "__contains__" "Mode.__contains__" s_ModeD_containsD a.f_ModeD_containsD a.d_ModeD_containsD
  m_ModeD_strD : Meth K a.f_Mode "__str__" a.f_ModeD_strD
  fn_ModeD_strD : Fun K "__str__" "Mode.__str__" s_ModeD_strD a.f_ModeD_strD a.d_ModeD_strD
  r_Mode : ClX.CRead K a.f_Mode (.type "type")
  k_Mode_MOST : ∃ t, ClX.CVal K a.f_Mode (.type "type") "MOST" (.int 511) (.int 511 t)
  ia_Mode : PySem.W.findIn K (.ref a.f_Mode) "__class__" = some (some (.builtin "object.__class__"))
  im_Mode : PySem.W.mroIn K a.f_Mode (.type "object") = some true
  is_Mode : PySem.W.kitOne K (.ref a.f_Mode) (.ref a.f_Mode) = some true
  ii_Mode : PySem.W.kitOne K (.type "int") (.ref a.f_Mode) = some false
  in_ : PySem.W.specialIn K (.builtin "object.__class__") "__get__" = some (some (.builtin "getset_descriptor.__get__"))
  it_ : PySem.W.takesIn K (.builtin "object.__class__") = some true
  mg_BadMode : mg "BadMode" = some (.ref a.x_BadMode)
  mg_ModesError : mg "ModesError" = some (.ref a.x_ModesError)
  mg_BadInput : mg "BadInput" = some (.ref a.x_BadInput)
  mg_NoWay : mg "NoWay" = some (.ref a.x_NoWay)
  mg_BadText : mg "BadText" = some (.ref a.x_BadText)
  ks_BadInput : PySem.W.kitOne K (.ref a.x_BadMode) (.ref a.x_BadInput) = some true
  ks_NoWay : PySem.W.kitOne K (.ref a.x_BadMode) (.ref a.x_NoWay) = some false
  ks_BadText : PySem.W.kitOne K (.ref a.x_BadMode) (.ref a.x_BadText) = some false
  ks_BadMode : PySem.W.kitOne K (.ref a.x_BadMode) (.ref a.x_BadMode) = some true
  ks_ValueError : PySem.W.kitOne K (.ref a.x_BadMode) (.type "ValueError") = some true
  ec_BadMode : ExcC K a.x_BadMode
  mg__law_heard : mg "_law_heard" = some (.ref a.f__law_heard)
  fn__law_heard : Fun K "_law_heard" "_law_heard" s__law_heard a.f__law_heard a.d__law_heard
  ox_BadMode : OexC K a.x_BadMode
  ic_BadMode : PySem.W.findIn K (.ref a.x_BadMode) "__init__" = some (some (.ref a.f_BadModeD_initD))
  it_BadMode : PySem.W.typeIn K (.ref a.f_BadModeD_initD) = some (.type "function")
  fn_BadModeD_initD : Fun K "__init__" "BadMode.__init__" s_BadModeD_initD a.f_BadModeD_initD a.d_BadModeD_initD
  np_BadMode : PySem.W.findIn K (.ref a.x_BadMode) "part" = some none
  em_BadMode : PySem.W.exmOne K (.ref a.x_BadMode) (.ref a.x_ModesError) = some true
  cr : ∃ oc od kV doc pm an ct osl, a.d__law_right = PySem.W.fnOf "_law_right" "_law_right" (defArgs s__law_right) (defBody s__law_right) (defScope s__law_right) .none kV doc pm an (.ref a.cR) ct ∧ K.lookup a.f__law_right = some ⟨oc, od, .func a.d__law_right, osl⟩
  cr_code : PySem.W.codeIn K (.ref a.cR) "_law_right" = true
  bf_or : BinF K a.f_Mode a.f_ModeD_orD a.f_ModeD_rorD "or"
  bf_and : BinF K a.f_Mode a.f_ModeD_andD a.f_ModeD_randD "and"
  bf_xor : BinF K a.f_Mode a.f_ModeD_xorD a.f_ModeD_rxorD "xor"
  nt_NoneType : PySem.W.kitOne K (.type "NoneType") (.ref a.f_Mode) = some false
  nt_bool : PySem.W.kitOne K (.type "bool") (.ref a.f_Mode) = some false
  nt_str : PySem.W.kitOne K (.type "str") (.ref a.f_Mode) = some false
  nt_tuple : PySem.W.kitOne K (.type "tuple") (.ref a.f_Mode) = some false
  nt_list : PySem.W.kitOne K (.type "list") (.ref a.f_Mode) = some false
  nt_dict : PySem.W.kitOne K (.type "dict") (.ref a.f_Mode) = some false
  mg_NINE_BITS : mg "NINE_BITS" = some (.ref a.k_NINE_BITS)
  t_NINE_BITS : ∀ H, SqT K H a.k_NINE_BITS ([256, 128, 64, 32, 16, 8, 4, 2, 1].map V.int)
  mg_NINE_SIGNS : ∃ t, mg "NINE_SIGNS" = some (.str "rwxrwxrwx" t)
theorem bd_is_whole {w : World} {K : PySem.W.Frag} {mg : Str → Option Value} {a : Ads} (T : Txt w K mg a) : Binds K a.d_is_whole ["value"] [] := T.fn_is_whole.binds (ps := ["value"]) fun _ _ _ _ _ _ us hl => match us, hl with | [_], _ => rfl
theorem bd_is_whole_to {w : World} {K : PySem.W.Frag} {mg : Str → Option Value} {a : Ads} (T : Txt w K mg a) : Binds K a.d_is_whole_to ["value", "most"] [] := T.fn_is_whole_to.binds (ps := ["value", "most"]) fun _ _ _ _ _ _ us hl => match us, hl with | [_, _], _ => rfl
theorem bd_may_stand {w : World} {K : PySem.W.Frag} {mg : Str → Option Value} {a : Ads} (T : Txt w K mg a) : Binds K a.d_may_stand ["value"] [] := T.fn_may_stand.binds (ps := ["value"]) fun _ _ _ _ _ _ us hl => match us, hl with | [_], _ => rfl
theorem bd_number_of {w : World} {K : PySem.W.Frag} {mg : Str → Option Value} {a : Ads} (T : Txt w K mg a) : Binds K a.d_number_of ["mode"] [] := T.fn_number_of.binds (ps := ["mode"]) fun _ _ _ _ _ _ us hl => match us, hl with | [_], _ => rfl
theorem bd__law_bag {w : World} {K : PySem.W.Frag} {mg : Str → Option Value} {a : Ads} (T : Txt w K mg a) : Binds K a.d__law_bag ["_law_script"] [] := T.fn__law_bag.binds (ps := ["_law_script"]) fun _ _ _ _ _ _ us hl => match us, hl with | [_], _ => rfl
theorem bd__law_draw {w : World} {K : PySem.W.Frag} {mg : Str → Option Value} {a : Ads} (T : Txt w K mg a) : Binds K a.d__law_draw ["_law_bag_here", "_law_limit"] [] := T.fn__law_draw.binds (ps := ["_law_bag_here", "_law_limit"]) fun _ _ _ _ _ _ us hl => match us, hl with | [_, _], _ => rfl
theorem bd__law_same {w : World} {K : PySem.W.Frag} {mg : Str → Option Value} {a : Ads} (T : Txt w K mg a) : Binds K a.d__law_same ["_law_actual", "_law_expected"] [] := T.fn__law_same.binds (ps := ["_law_actual", "_law_expected"]) fun _ _ _ _ _ _ us hl => match us, hl with | [_, _], _ => rfl
theorem bd__law_put {w : World} {K : PySem.W.Frag} {mg : Str → Option Value} {a : Ads} (T : Txt w K mg a) : Binds K a.d__law_put ["_law_kind", "_law_one", "_law_other"] [] := T.fn__law_put.binds (ps := ["_law_kind", "_law_one", "_law_other"]) fun _ _ _ _ _ _ us hl => match us, hl with | [_, _, _], _ => rfl
theorem bd__law_put_in {w : World} {K : PySem.W.Frag} {mg : Str → Option Value} {a : Ads} (T : Txt w K mg a) : Binds K a.d__law_put_in ["_law_kind", "_law_one", "_law_other"] [] := T.fn__law_put_in.binds (ps := ["_law_kind", "_law_one", "_law_other"]) fun _ _ _ _ _ _ us hl => match us, hl with | [_, _, _], _ => rfl
theorem bd__law_bits {w : World} {K : PySem.W.Frag} {mg : Str → Option Value} {a : Ads} (T : Txt w K mg a) : Binds K a.d__law_bits ["_law_kind", "_law_one", "_law_other"] [] := T.fn__law_bits.binds (ps := ["_law_kind", "_law_one", "_law_other"]) fun _ _ _ _ _ _ us hl => match us, hl with | [_, _, _], _ => rfl
theorem bd__law_is_mode {w : World} {K : PySem.W.Frag} {mg : Str → Option Value} {a : Ads} (T : Txt w K mg a) : Binds K a.d__law_is_mode ["_law_found", "_law_number"] [] := T.fn__law_is_mode.binds (ps := ["_law_found", "_law_number"]) fun _ _ _ _ _ _ us hl => match us, hl with | [_, _], _ => rfl
theorem bd__law_right {w : World} {K : PySem.W.Frag} {mg : Str → Option Value} {a : Ads} (T : Txt w K mg a) : Binds K a.d__law_right ["_law_kind", "_law_a", "_law_b"] [] := T.fn__law_right.binds (ps := ["_law_kind", "_law_a", "_law_b"]) fun _ _ _ _ _ _ us hl => match us, hl with | [_, _, _], _ => rfl
theorem bd_law {w : World} {K : PySem.W.Frag} {mg : Str → Option Value} {a : Ads} (T : Txt w K mg a) : Binds K a.d_law ["_law_script"] [] := T.fn_law.binds (ps := ["_law_script"]) fun _ _ _ _ _ _ us hl => match us, hl with | [_], _ => rfl
theorem bd_ModeD_initD {w : World} {K : PySem.W.Frag} {mg : Str → Option Value} {a : Ads} (T : Txt w K mg a) : Binds K a.d_ModeD_initD ["self", "number"] [] := T.fn_ModeD_initD.binds (ps := ["self", "number"]) fun _ _ _ _ _ _ us hl => match us, hl with | [_, _], _ => rfl
theorem bd_Mode_number {w : World} {K : PySem.W.Frag} {mg : Str → Option Value} {a : Ads} (T : Txt w K mg a) : Binds K a.d_Mode_number ["self"] [] := T.fn_Mode_number.binds (ps := ["self"]) fun _ _ _ _ _ _ us hl => match us, hl with | [_], _ => rfl
theorem bd_ModeD_orD {w : World} {K : PySem.W.Frag} {mg : Str → Option Value} {a : Ads} (T : Txt w K mg a) : Binds K a.d_ModeD_orD ["self", "other"] [] := T.fn_ModeD_orD.binds (ps := ["self", "other"]) fun _ _ _ _ _ _ us hl => match us, hl with | [_, _], _ => rfl
theorem bd_ModeD_rorD {w : World} {K : PySem.W.Frag} {mg : Str → Option Value} {a : Ads} (T : Txt w K mg a) : Binds K a.d_ModeD_rorD ["self", "other"] [] := T.fn_ModeD_rorD.binds (ps := ["self", "other"]) fun _ _ _ _ _ _ us hl => match us, hl with | [_, _], _ => rfl
theorem bd_ModeD_andD {w : World} {K : PySem.W.Frag} {mg : Str → Option Value} {a : Ads} (T : Txt w K mg a) : Binds K a.d_ModeD_andD ["self", "other"] [] := T.fn_ModeD_andD.binds (ps := ["self", "other"]) fun _ _ _ _ _ _ us hl => match us, hl with | [_, _], _ => rfl
theorem bd_ModeD_randD {w : World} {K : PySem.W.Frag} {mg : Str → Option Value} {a : Ads} (T : Txt w K mg a) : Binds K a.d_ModeD_randD ["self", "other"] [] := T.fn_ModeD_randD.binds (ps := ["self", "other"]) fun _ _ _ _ _ _ us hl => match us, hl with | [_, _], _ => rfl
theorem bd_ModeD_xorD {w : World} {K : PySem.W.Frag} {mg : Str → Option Value} {a : Ads} (T : Txt w K mg a) : Binds K a.d_ModeD_xorD ["self", "other"] [] := T.fn_ModeD_xorD.binds (ps := ["self", "other"]) fun _ _ _ _ _ _ us hl => match us, hl with | [_, _], _ => rfl
theorem bd_ModeD_rxorD {w : World} {K : PySem.W.Frag} {mg : Str → Option Value} {a : Ads} (T : Txt w K mg a) : Binds K a.d_ModeD_rxorD ["self", "other"] [] := T.fn_ModeD_rxorD.binds (ps := ["self", "other"]) fun _ _ _ _ _ _ us hl => match us, hl with | [_, _], _ => rfl
theorem bd_ModeD_invertD {w : World} {K : PySem.W.Frag} {mg : Str → Option Value} {a : Ads} (T : Txt w K mg a) : Binds K a.d_ModeD_invertD ["self"] [] := T.fn_ModeD_invertD.binds (ps := ["self"]) fun _ _ _ _ _ _ us hl => match us, hl with | [_], _ => rfl
theorem bd_ModeD_containsD {w : World} {K : PySem.W.Frag} {mg : Str → Option Value} {a : Ads} (T : Txt w K mg a) : Binds K a.d_ModeD_containsD ["self", "bit"] [] := T.fn_ModeD_containsD.binds (ps := ["self", "bit"]) fun _ _ _ _ _ _ us hl => match us, hl with | [_, _], _ => rfl
theorem bd_ModeD_strD {w : World} {K : PySem.W.Frag} {mg : Str → Option Value} {a : Ads} (T : Txt w K mg a) : Binds K a.d_ModeD_strD ["self"] [] := T.fn_ModeD_strD.binds (ps := ["self"]) fun _ _ _ _ _ _ us hl => match us, hl with | [_], _ => rfl
theorem bd_BadModeD_initD {w : World} {K : PySem.W.Frag} {mg : Str → Option Value} {a : Ads} (T : Txt w K mg a) : Binds K a.d_BadModeD_initD ["self", "part"] [] := T.fn_BadModeD_initD.binds (ps := ["self", "part"]) fun _ _ _ _ _ _ us hl => match us, hl with | [_, _], _ => rfl
theorem bd__law_heard {w : World} {K : PySem.W.Frag} {mg : Str → Option Value} {a : Ads} (T : Txt w K mg a) : Binds K a.d__law_heard ["_law_ask"] [] := T.fn__law_heard.binds (ps := ["_law_ask"]) fun _ _ _ _ _ _ us hl => match us, hl with | [_], _ => rfl
end KC
set_option Elab.async false
set_option linter.all false
set_option maxRecDepth 100000
set_option maxHeartbeats 4000000
namespace KC
open PySem PySem.Spec PyProof.Rows L2 Evl
local macro_rules | `(tactic| walk_at "ev") => `(tactic| repeat' (first | exact ev_c | exact ev_var rfl | exact rv_I0 | refine' rv_I ?_ | refine' rv_eq ?_ | refine' rv_ne ?_ | refine' ev_op ?_ ?_ ?_ | exact ea_nil | refine' ea_cons ?_ ?_ | refine' et_test ?_ | refine' et_B ?_ | refine' et_not ?_ | refine' ev_notV ?_))
/-! what a value evaluates to: further words -/
/-- a new instance -/
def EvI (te : TE) (σ : L2.St) (H : Hp) (C : Addr) (fs : List (Str × V)) : Prop := ∀ H1, Ex H H1 → ∀ Q : VK, (∀ p dx H2, H1 p = none → Ex H1 H2 → H2 p = some (.ins C dx fs) → Q (.ref p) H2) → te σ H1 Q
/-- a tuple, made or old -/
def EvW (K : PySem.W.Frag) (te : TE) (σ : L2.St) (H : Hp) (xs : List V) : Prop := ∀ H1, Ex H H1 → ∀ Q : VK, (∀ p H2, Ex H1 H2 → SqT K H2 p xs → Q (.ref p) H2) → te σ H1 Q
section
variable {σ : L2.St} {K : PySem.W.Frag} {H H' : Hp} {tx te ta tb : TE} {u t : TT} {v x y z : V} {r : R2}
theorem ev_isi {ta : TA} {c : V} {t u : Value} {b : Bool} (ha : EvA ta σ H [x, c]) (k : ClsV c u) (ty : ∀ H', Ex H H' → TyX K H' x t) (e : PySem.W.kitOne K t u = some b) : Ev (tCB (rIsi K) ta) σ H (.bl b) := fun H1 e1 Q q =>
  ha H1 e1 _ fun H2 e2 => ⟨x, c, t, u, b, rfl, k, ty H2 (e1.trans e2), e, q H2 e2⟩
theorem ev_chain {r r' : R2} {tc : TE} {k1 k2 : Bool} {z : V} (ha : Ev ta σ H x) (hb : Ev tb σ H y) (h1 : RV r x y H (.bl k1)) (hc : k1 = true → Ev tc σ H z ∧ RV r' y z H (.bl k2)) : Ev (tChain r r' ta tb tc) σ H (.bl (k1 && k2)) := fun H1 e1 Q q =>
  ha H1 e1 _ fun H2 e2 => hb H2 (e1.trans e2) _ fun H3 e3 => h1 H3 ((e1.trans e2).trans e3) _ fun H4 e4 => ⟨k1, rfl, by
    cases k1 with
    | true =>
      obtain ⟨h3, h4⟩ := hc rfl
      exact h3 H4 (((e1.trans e2).trans e3).trans e4) _ fun H5 e5 => h4 H5 ((((e1.trans e2).trans e3).trans e4).trans e5) _ fun H6 e6 => q H6 ((((e2.trans e3).trans e4).trans e5).trans e6)
    | false => exact q H4 ((e2.trans e3).trans e4)⟩
theorem ev_cval {ta : TE} {C : Addr} {mc : Value} {f : Str} {u : Value} (h : Ev ta σ H (.ref C)) (r : ClX.CRead K C mc) (k : ClX.CVal K C mc f v u) : Ev (ClX.tCVal K ta f) σ H v := fun H1 e Q q => h H1 e _ fun H2 e2 => ⟨C, mc, v, u, rfl, r, k, q H2 e2⟩
theorem ev_prop {C a : Addr} {dx : Addr} {fs : List (Str × V)} {sp : Sp} {E : XK} (h : Ev ta σ H (.ref a)) (ho : H a = some (.ins C dx fs)) (hs : SpV sp [.ref a] H v) : Ev (tProp C sp [] E ta) σ H v := fun H1 e Q q =>
  h H1 e _ fun H2 e2 => ⟨a, dx, fs, rfl, e2 _ _ (e _ _ ho), hs H2 (e.trans e2) Q (fun H3 e3 => q H3 (e2.trans e3)) E⟩
theorem ev_fld {C a : Addr} {dx : Addr} {fs : List (Str × V)} {f : Str} (h : Ev ta σ H (.ref a)) (ho : H a = some (.ins C dx fs)) (c : Cls K C) (n : NoAttr K C f) (l : fs.lookup f = some v) : Ev (tFld K ta f) σ H v := fun H1 e Q q =>
  h H1 e _ fun H2 e2 => ⟨a, C, dx, fs, v, rfl, e2 _ _ (e _ _ ho), c, n, l, q H2 e2⟩
theorem spv_get {C a : Addr} {dx : Addr} {fs : List (Str × V)} {f : Str} (ho : H a = some (.ins C dx fs)) (l : fs.lookup f = some v) : SpV (getSp C f) [.ref a] H v := fun H1 e Q q E => ⟨a, dx, fs, v, rfl, e _ _ ho, l, q H1 (Ex.refl _)⟩
end
/-! promises -/
def spTrue1 : Sp := fun vs H Q _ => ∃ i : Int, vs = [.int i] ∧ ∀ H', Ex H H' → Q (.bl true) H'
def spTrue2 : Sp := fun vs H Q _ => ∃ i m : Int, vs = [.int i, .int m] ∧ 0 ≤ i ∧ i ≤ m ∧ ∀ H', Ex H H' → Q (.bl true) H'
/-- a Mode of number n stands at p -/
def ModeAt (a : Ads) (H : Hp) (p : Addr) (n : Nat) : Prop := ∃ dx, H p = some (.ins a.f_Mode dx [(("_number" : Str), .int n)])
theorem ModeAt.mono {a : Ads} {H H' : Hp} {p : Addr} {n : Nat} (m : ModeAt a H p n) (e : Ex H H') : ModeAt a H' p n := by
  obtain ⟨dx, h⟩ := m
  exact ⟨dx, e _ _ h⟩
def spMode (a : Ads) : Sp := fun vs H Q _ => ∃ (p dx : Addr) (n : Nat), vs = [.ref p, .int n] ∧ n < 512 ∧ H p = some (.ins a.f_Mode dx []) ∧ ∀ H', (∀ b o, H b = some o → b ≠ p → H' b = some o) → H' p = some (.ins a.f_Mode dx [(("_number" : Str), .int n)]) → Q .non H'
section
variable {P : Program} {w : World} {K : PySem.W.Frag} {mg : Str → Option Value} {base : Heap} {a : Ads}
theorem ok_is_whole (T : Txt w K mg a) : FnOk P w K mg base CX0 1 a.f_is_whole a.d_is_whole ["value"] spTrue1 := by
  refine T.fn_is_whole.ok sc_is_whole (fun vs H Q E h => ?_) (fun cdv A outer s H vs Q E hr h => ?_)
  · obtain ⟨_, rfl, _⟩ := h
    rfl
  · obtain ⟨i, rfl, k⟩ := h
    refine ⟨_, (pss_one (ps_ret (pe_and (pe_callB call_isi (by rfl) T.b_isinstance PyProof.Rows.boot_isinstance (pa_cons (pv 0) (pa_cons (pe_bltn (v := .ty "int") (by rfl) T.b_int (by decide +kernel) rfl) pa_nil))) (pe_one (pe_not (pe_callB call_isi (by rfl) T.b_isinstance PyProof.Rows.boot_isinstance (pa_cons (pv 0) (pa_cons (pe_bltn (v := .ty "bool") (by rfl) T.b_bool (by decide +kernel) rfl) pa_nil)))))))), ?_⟩
    refine s_ret (v := .bl true) (ev_andV (a := true) (ev_isi (by walk_at "ev") (.ty _) (fun _ _ => .base (.int i)) (kit_ty (by decide +kernel))) fun _ => ev_notV (a := false) (ev_isi (by walk_at "ev") (.ty _) (fun _ _ => .base (.int i)) (kit_ty (by decide +kernel)))) fun H1 e1 => ?_
    exact k H1 e1
theorem ok_is_whole_to (T : Txt w K mg a) : FnOk P w K mg base CX0 3 a.f_is_whole_to a.d_is_whole_to ["value", "most"] spTrue2 := by
  have G_is_whole : FnOk P w K mg base CX0 1 _ _ _ _ := ok_is_whole T
  refine T.fn_is_whole_to.ok sc_is_whole_to (fun vs H Q E h => ?_) (fun cdv A outer s H vs Q E hr h => ?_)
  · obtain ⟨_, _, rfl, _⟩ := h
    rfl
  · obtain ⟨i, m, rfl, h0, h1, k⟩ := h
    have hrc : Room 1 _ := hr.mono (by decide)
    refine ⟨_, (pss_one (ps_ret (pe_and (pe_call G_is_whole hrc rfl T.mg_is_whole T.fn_is_whole.kp (bd_is_whole T) .nil pass0 (pa_cons (pv 0) pa_nil)) (pe_one (pe_chain op_le op_le pe_int (pv 0) (pv 1)))))), ?_⟩
    refine s_ret (v := .bl true) (ev_is (ev_andV (a := true) (ev_call (vs := [.int i]) (by walk_at "ev") fun H1 e Q q E => ⟨i, rfl, q⟩) fun _ => ev_chain (by walk_at "ev") (by walk_at "ev") (by walk_at "ev") fun _ => ⟨by walk_at "ev", by walk_at "ev"⟩) ?_) fun H1 e1 => ?_
    · rw [decide_eq_true h0, decide_eq_true h1] <;> rfl
    exact k H1 e1
theorem ok_Mode_init (T : Txt w K mg a) : FnOk P w K mg base CX0 5 a.f_ModeD_initD a.d_ModeD_initD ["self", "number"] (spMode a) := by
  have G_is_whole_to : FnOk P w K mg base CX0 3 _ _ _ _ := ok_is_whole_to T
  refine T.fn_ModeD_initD.ok sc_ModeD_initD (fun vs H Q E h => ?_) (fun cdv A outer s H vs Q E hr h => ?_)
  · obtain ⟨_, _, _, rfl, _⟩ := h
    rfl
  · obtain ⟨p, dx, n, rfl, hn, hp, k⟩ := h
    have hrc : Room 3 _ := hr.mono (by decide)
    obtain ⟨tm, hm⟩ := T.k_Mode_MOST
    refine ⟨_, (pss_cons (ps_if (pt_not (pt_val (pe_call G_is_whole_to hrc rfl T.mg_is_whole_to T.fn_is_whole_to.kp (bd_is_whole_to T) .nil pass0 (pa_cons (pv 1) (pa_cons (ClX.pe_cval (pe_glob (v := .ref a.f_Mode) rfl T.mg_Mode rfl)) pa_nil))))) (pss_one ps_never) pss_nil)
    (pss_one (ps_fld (pv 0) (pv 1) rfl))), ?_⟩
    refine q_when (b := false) (et_not (a := true) (et_B (ev_call (vs := [.int n, .int 511]) (ea_cons (ev_var rfl) (ea_cons (ev_cval ev_c T.r_Mode hm) ea_nil)) fun H1 e Q q E => ⟨n, 511, rfl, by omega, by omega, q⟩))) (fun z => nomatch z) fun _ H1 e1 => ?_
    refine ⟨_, rfl, _, rfl, p, a.f_Mode, dx, [], rfl, e1 _ _ hp, T.c_Mode, T.n_number_Mode, (by show 0 < 1000; decide), ?_⟩
    exact k _ (fun b o hb ne => by rw [upd_ne ne]; exact e1 _ _ hb) upd_same
theorem ok_Mode_number (T : Txt w K mg a) : FnOk P w K mg base CX0 1 a.f_Mode_number a.d_Mode_number ["self"] (getSp a.f_Mode "_number") := by
  obtain ⟨oc, od, kV, doc, pm, an, cdv, ct, osl, e, lk, hcd⟩ := T.fn_Mode_number.ex
  rw [e]
  exact fn_getter (by rw [← e]; exact lk) hcd sc_Mode_number rfl rfl T.c_Mode T.n_number_Mode
theorem tyx_mode (T : Txt w K mg a) {H : Hp} {p : Addr} {n : Nat} (m : ModeAt a H p n) : TyX K H (.ref p) (.ref a.f_Mode) := by
  obtain ⟨dx, h⟩ := m
  exact .base (.ins h T.c_Mode T.ia_Mode T.in_ T.it_ T.im_Mode)
end
end KC
set_option Elab.async false
set_option linter.all false
set_option maxRecDepth 100000
set_option maxHeartbeats 4000000
namespace KC
open PySem PySem.Spec PyProof.Rows L2 Evl
local macro_rules | `(tactic| walk_at "ev") => `(tactic| repeat' (first | exact ev_c | exact ev_var rfl | exact rv_I0 | refine' rv_I ?_ | refine' rv_eq ?_ | refine' rv_ne ?_ | refine' ev_op ?_ ?_ ?_ | exact ea_nil | refine' ea_cons ?_ ?_ | refine' et_test ?_ | refine' et_B ?_ | refine' et_not ?_ | refine' ev_notV ?_))

section
variable {σ : L2.St} {K : PySem.W.Frag} {H H' : Hp} {tx te ta tb : TE} {u t : TT} {v x y z : V} {r : R2}
/-- a comprehension over the signs of a text -/
theorem el_lcS {s : Str} {tl' : TE} {j : Nat} {vs : List Nat} (f : Nat → Bool) (v : Nat → V) (h : Ev tl' σ H (.str s)) (hz : s.cps.size ≤ 40000) (hw : ∀ x, wipe ((wipe σ vs).set j (some x)) vs = wipe σ vs)
    (ht : ∀ (i : Nat) (c : Nat) H1, Ex H H1 → s.cps[i]? = some c → EvT t ((wipe σ vs).set j (some (.str ⟨#[c]⟩))) H1 (f i)) (he : ∀ (i : Nat) (c : Nat) H1, Ex H H1 → s.cps[i]? = some c → f i = true → Ev te ((wipe σ vs).set j (some (.str ⟨#[c]⟩))) H1 (v i)) :
    EvL (tLc (iStr tl') (gName j) t te vs) σ H (given s.cps.size f v) := fun H0 e Q q => h H0 e _ fun H1 e1 => ⟨s, rfl, fun Dl hD =>
  ⟨fun i m H' => m = s.cps.size - i ∧ i ≤ s.cps.size ∧ Cw H1 f v Dl i H', ⟨s.cps.size, by simp, Nat.zero_le _, hD, Ex.new hD, upd_same⟩, by
    rintro i m H' ⟨rfl, hi, p⟩
    by_cases hlt : i < s.cps.size
    · refine .inr ⟨hlt, Cw H1 f v Dl (i + 1), fun H2 p' => ⟨s.cps.size - (i + 1), by omega, rfl, hlt, p'⟩, ?_⟩
      rintro x H2 ⟨rfl, c, hc, rfl⟩
      exact ⟨hw _, cw_turn p (by omega) (ht i c H1 (e.trans e1) hc) (fun hf => he i c H1 (e.trans e1) hc hf)⟩
    · have e2 : i = s.cps.size := by omega
      subst e2
      exact .inl ⟨Nat.le_refl _, q Dl H' (fresh_back e1 p.1) (e1.trans p.2.1) p.2.2⟩⟩⟩
/-- over a tuple -/
theorem el_lcT {a : Addr} {xs : List V} {tl : TE} {g : TG} {vs : List Nat} {σ' : V → L2.St} (f : Nat → Bool) (v : Nat → V) (h : Ev tl σ H (.ref a)) (hx : SqT K H a xs) (hz : xs.length ≤ 40000)
    (hg : ∀ (i : Nat) (x : V) H1 (Q : L2.St → Hp → Prop), Ex H H1 → xs[i]? = some x → Q (σ' x) H1 → g x (wipe σ vs) H1 Q) (hw : ∀ x, wipe (σ' x) vs = wipe σ vs)
    (ht : ∀ (i : Nat) (x : V) H1, Ex H H1 → xs[i]? = some x → EvT t (σ' x) H1 (f i)) (he : ∀ (i : Nat) (x : V) H1, Ex H H1 → xs[i]? = some x → f i = true → Ev te (σ' x) H1 (v i)) :
    EvL (tLc (iTup K tl) g t te vs) σ H (given xs.length f v) := fun H0 e Q q => h H0 e _ fun H1 e1 => ⟨a, rfl, ⟨xs, ex_t (e.trans e1) hx⟩, fun Dl hD =>
  lc_tup (xs := xs) (Cw H1 f v Dl) ⟨hD, Ex.new hD, upd_same⟩ (fun i H' _ p => ex_t ((e.trans e1).trans p.2.1) hx)
    (fun i x H' hi p => hg i x H' _ ((e.trans e1).trans p.2.1) hi ⟨hw x, cw_turn p (by have := (List.getElem?_eq_some_iff.mp hi).1; omega) (ht i x H1 (e.trans e1) hi) (fun hf => he i x H1 (e.trans e1) hi hf)⟩)
    (fun He cw => q Dl He (fresh_back e1 cw.1) (e1.trans cw.2.1) cw.2.2)⟩
theorem et_yes : EvT tYes σ H true := fun H1 _ _ q => q H1 (Ex.refl H1)
theorem ev_join {s : Str} {ys : List Str} (ha : Ev ta σ H (.str s)) (hb : EvL te σ H (ys.map V.str)) (hz : (ys.map (·.length)).sum + ys.length * s.length ≤ 16777216) :
    Ev (tM1 (fun x xs H Q => ∃ a p, ∃ ys : List Str, x = .str a ∧ xs = [.ref p] ∧ (SqL K H p (ys.map V.str) ∨ SqT K H p (ys.map V.str)) ∧ (ys.map (·.length)).sum + ys.length * a.length ≤ 16777216 ∧ Q (.str (Txt.join a ys)) H) ta te) σ H (.str (Txt.join s ys)) := fun H1 e Q q =>
  ha H1 e _ fun H2 e2 => ⟨⟨s, rfl⟩, hb H2 (e.trans e2) _ fun p H3 _ e3 h3 => ⟨s, p, ys, rfl, rfl, .inl (sq_of h3), hz, q H3 (e2.trans e3)⟩⟩
theorem eu_tuple {xs : List V} (h : EvL te σ H xs) : EvU (tCB (fun xs H Q => ∃ p ys, xs = [.ref p] ∧ ((SqL K H p ys ∧ ∀ l, H l = none → Q (.ref l) (upd H l (.tup ys))) ∨ (SqT K H p ys ∧ Q (.ref p) H))) (tCons te tNil)) σ H xs := fun H1 e Q q =>
  h H1 e _ fun p H2 _ e2 h2 => ⟨p, xs, rfl, .inl ⟨sq_of h2, fun l hl => q l _ (fresh_back e2 hl) (e2.trans (Ex.new hl)) upd_same⟩⟩
theorem ev_sum {ns : List Int} (h : EvL te σ H (ns.map V.int)) : Ev (tCB (rSum K) (tCons te tNil)) σ H (.int ns.sum) := fun H1 e Q q =>
  h H1 e _ fun p H2 _ e2 h2 => ⟨p, ns, rfl, sq_of h2, q H2 e2⟩
theorem el_is {xs ys : List V} (h : EvL te σ H xs) (e : xs = ys) : EvL te σ H ys := e ▸ h
theorem eu_is {xs ys : List V} (h : EvU te σ H xs) (e : xs = ys) : EvU te σ H ys := e ▸ h
theorem rv_inS {c : Nat} {w : Str} : RV (fun x y H Q => ∃ (c : Nat) (z : Str), x = .str ⟨#[c]⟩ ∧ y = .str z ∧ Q (.bl (decide (c ∈ z.cps.toList))) H) (.str ⟨#[c]⟩) (.str w) H (.bl (decide (c ∈ w.cps.toList))) := fun H1 _ _ q => ⟨c, w, rfl, rfl, q H1 (Ex.refl H1)⟩
end
end KC
set_option Elab.async false
set_option linter.all false
set_option maxRecDepth 100000
set_option maxHeartbeats 4000000
namespace KC
open PySem PySem.Spec PyProof.Rows L2 Evl
local macro_rules | `(tactic| walk_at "ev") => `(tactic| repeat' (first | exact ev_c | exact ev_var rfl | exact rv_I0 | refine' rv_I ?_ | refine' rv_eq ?_ | refine' rv_ne ?_ | refine' ev_op ?_ ?_ ?_ | exact ea_nil | refine' ea_cons ?_ ?_ | refine' et_test ?_ | refine' et_B ?_ | refine' et_not ?_ | refine' ev_notV ?_))

theorem put_some {kvs : List (Key × V)} {k : Key} {v y : V} (h : valV kvs k = some y) : putK kvs k v = kvs.map (fun kv => if kv.1 = k then (kv.1, v) else kv) := by
  unfold putK; rw [valV_any, h]; exact if_pos rfl
/-- three different keys, merged -/
theorem merge3 {k1 k2 k3 : Key} {x y z : V} (h1 : k1 ≠ k2) (h2 : k1 ≠ k3) (h3 : k2 ≠ k3) : mergeK [] [(k1, x), (k2, y), (k3, z)] = [(k1, x), (k2, y), (k3, z)] := by
  have e1 : putK [] k1 x = [(k1, x)] := putK_new x rfl
  have e2 : putK [(k1, x)] k2 y = [(k1, x), (k2, y)] := putK_new y ((valV_neg h1).trans rfl)
  have e3 : putK [(k1, x), (k2, y)] k3 z = [(k1, x), (k2, y), (k3, z)] := putK_new z ((valV_neg h2).trans ((valV_neg h3).trans rfl))
  show putK (putK (putK [] k1 x) k2 y) k3 z = _
  rw [e1, e2, e3]
/-- a new dict -/
def EvD (te : TE) (σ : L2.St) (H : Hp) (kvs : List (Key × V)) : Prop := ∀ H1, Ex H H1 → ∀ Q : VK, (∀ p H2, H1 p = none → Ex H1 H2 → H2 p = some (.dK kvs) → Q (.ref p) H2) → te σ H1 Q
section
variable {K : PySem.W.Frag} {σ : L2.St} {H H' : Hp} {ta tb te tx tv : TE} {t u : TT} {x y z v : V} {r : R2} {D : Ends} {tz : TS}
theorem ed_disp3 {s1 s2 s3 : Str} {t1 t2 t3 v1 v2 v3 : TE} (k1 : Ev t1 σ H (.str s1)) (h1 : Ev v1 σ H x) (k2 : Ev t2 σ H (.str s2)) (h2 : Ev v2 σ H y) (k3 : Ev t3 σ H (.str s3)) (h3 : Ev v3 σ H z) (n1 : (Sum.inr s1 : Key) ≠ .inr s2) (n2 : (Sum.inr s1 : Key) ≠ .inr s3) (n3 : (Sum.inr s2 : Key) ≠ .inr s3) :
    EvD (tDisp [(t1, v1), (t2, v2), (t3, v3)]) σ H [(.inr s1, x), (.inr s2, y), (.inr s3, z)] := fun H1 e Q q p hp => by
  have e0 : Ex H (upd H1 p (.dK [])) := e.trans (Ex.new hp)
  refine k1 _ e0 _ fun H2 e2 => h1 H2 (e0.trans e2) _ fun H3 e3 => k2 H3 ((e0.trans e2).trans e3) _ fun H4 e4 => h2 H4 (((e0.trans e2).trans e3).trans e4) _ fun H5 e5 => k3 H5 ((((e0.trans e2).trans e3).trans e4).trans e5) _ fun H6 e6 => h3 H6 (((((e0.trans e2).trans e3).trans e4).trans e5).trans e6) _ fun H7 e7 => ?_
  have e27 : Ex (upd H1 p (.dK [])) H7 := ((((e2.trans e3).trans e4).trans e5).trans e6).trans e7
  refine ⟨e27 _ _ upd_same, [(.inr s1, x), (.inr s2, y), (.inr s3, z)], rfl, by show 3 ≤ 15; decide, ?_⟩
  rw [merge3 n1 n2 n3]
  exact q p _ hp (fun b o hb => by rw [upd_ne (ne_of_none hb hp)]; exact e27 _ _ (Ex.new hp _ _ hb)) upd_same
theorem q_asgD {i : Nat} {kvs : List (Key × V)} (h : EvD te σ H kvs) (k : ∀ p H1, H p = none → Ex H H1 → H1 p = some (.dK kvs) → tz D (σ.set i (some (.ref p))) H1) : tSeq (tAsg te (gName i)) tz D σ H := h H (Ex.refl H) _ fun p H1 hp e h1 => k p H1 hp e h1
theorem ev_dget {d : Addr} {kvs : List (Key × V)} {s : Str} (h : Ev ta σ H (.ref d)) (hk : Ev tb σ H (.str s)) (hd : H d = some (.dK kvs)) (e : valV kvs (.inr s) = some v) : Ev (tDGet ta tb) σ H v := fun H1 e1 Q q =>
  h H1 e1 _ fun H2 e2 => hk H2 (e1.trans e2) _ fun H3 e3 => ⟨d, v, rfl, by rw [← e]; exact DGet.k (k := .inr s) (e3 _ _ (e2 _ _ (e1 _ _ hd))), q H3 (e2.trans e3)⟩
theorem ev_dget2 {d : Addr} {kvs : List (Key × V)} {s : Str} (h : Ev ta σ H (.ref d)) (hk : Ev tb σ H (.str s)) (hx : Ev tx σ H x) (hd : H d = some (.dK kvs)) : Ev (tDGet2 ta tb tx) σ H ((valV kvs (.inr s)).getD x) := fun H1 e1 Q q =>
  h H1 e1 _ fun H2 e2 => ⟨d, rfl, .inl ⟨kvs, .inl (e2 _ _ (e1 _ _ hd))⟩, hk H2 (e1.trans e2) _ fun H3 e3 => hx H3 ((e1.trans e2).trans e3) _ fun H4 e4 => ⟨_, DGet.k (k := .inr s) (e4 _ _ (e3 _ _ (e2 _ _ (e1 _ _ hd)))), q H4 ((e2.trans e3).trans e4)⟩⟩
theorem et_dnotin {d : Addr} {kvs : List (Key × V)} {s : Str} (hk : Ev ta σ H (.str s)) (h : Ev tb σ H (.ref d)) (hd : H d = some (.dK kvs)) : EvT (tB (tDNotIn ta tb)) σ H (!(valV kvs (.inr s)).isSome) := fun H1 e1 Q q =>
  hk H1 e1 _ fun H2 e2 => h H2 (e1.trans e2) _ fun H3 e3 => ⟨d, _, rfl, DGet.k (k := .inr s) (e3 _ _ (e2 _ _ (e1 _ _ hd))), _, rfl, q H3 (e2.trans e3)⟩
theorem ed_copy {d : Addr} {kvs : List (Key × V)} (h : Ev ta σ H (.ref d)) (hd : H d = some (.dK kvs)) : EvD (tCB (fun xs H Q => ∃ (a : Addr) (kvs : List (Key × V)), xs = [V.ref a] ∧ Rd H a (.dK kvs) ∧ ∀ p, H p = none → Q (.ref p) (upd H p (.dK kvs))) (tCons ta tNil)) σ H kvs := fun H1 e1 Q q =>
  h H1 e1 _ fun H2 e2 => ⟨d, kvs, rfl, .inl (e2 _ _ (e1 _ _ hd)), fun p hp => q p _ (fresh_back e2 hp) (e2.trans (Ex.new hp)) upd_same⟩
theorem q_dput {d : Addr} {kvs : List (Key × V)} {s : Str} (hv : Ev tv σ H v) (h : Ev ta σ H (.ref d)) (hk : Ev tb σ H (.str s)) (hd : H d = some (.dK kvs)) (hl : kvs.length < 1000) (k : ∀ H1, Ex H H1 → D.nx σ (upd H1 d (.dK (putK kvs (.inr s) v)))) : sDPut ta tb tv D σ H :=
  hv H (Ex.refl H) _ fun H1 e1 => h H1 e1 _ fun H2 e2 => hk H2 (e1.trans e2) _ fun H3 e3 => ⟨d, _, rfl, DPut.k (k := .inr s) (e3 _ _ (e2 _ _ (e1 _ _ hd))) (small1000 (Nat.le_of_lt hl)), k H3 ((e1.trans e2).trans e3)⟩
/-- over the signs of a text -/
theorem q_forS {s : Str} {j : Nat} {ts : TS} (h : Ev te σ H (.str s)) (Pv : Nat → L2.St → Hp → Prop) (h0 : ∀ H1, Ex H H1 → Pv 0 σ H1)
    (hs : ∀ (i c : Nat) σ' H', s.cps.toList[i]? = some c → Pv i σ' H' → ts { D with nx := Pv (i + 1), ct := Pv (i + 1), bk := tz D } (σ'.set j (some (.str ⟨#[c]⟩))) H') (hd : ∀ σ' H', Pv s.cps.size σ' H' → tz D σ' H') : tSeq (tFor (iStr te) (gName j) ts) tz D σ H :=
  h H (Ex.refl H) _ fun H1 e1 => ⟨s, rfl, fun i m σ' H' => m = s.cps.size - i ∧ i ≤ s.cps.size ∧ Pv i σ' H', ⟨s.cps.size, by simp, Nat.zero_le _, h0 H1 e1⟩, by
    rintro i m σ' H' ⟨rfl, hi, p⟩
    by_cases hlt : i < s.cps.size
    · refine .inr ⟨hlt, Pv (i + 1), fun σ2 H2 p' => ⟨s.cps.size - (i + 1), by omega, rfl, hlt, p'⟩, ?_⟩
      rintro x H2 ⟨rfl, c, hc, rfl⟩
      rw [← Array.getElem?_toList] at hc
      exact hs i c σ' _ hc p
    · have e : i = s.cps.size := by omega
      subst e
      exact .inl ⟨Nat.le_refl _, hd σ' H' p⟩⟩
theorem q_asgTV {p : Addr} {xs : List V} {n : Nat} {tgs : TGs} (h : Ev te σ H (.ref p)) (hx : SqT K H p xs) (hl : xs.length = n) (k : ∀ H1, Ex H H1 → tgs xs σ H1 (tz D)) : tSeq (tAsg te (gTup K n tgs)) tz D σ H :=
  h H (Ex.refl _) _ fun H1 e => ⟨p, xs, rfl, ex_t e hx, hl, k H1 e⟩
end
end KC
set_option Elab.async false
set_option linter.all false
set_option maxRecDepth 100000
set_option maxHeartbeats 4000000
namespace KC
open PySem PySem.Spec PyProof.Rows L2 Evl
local macro_rules | `(tactic| walk_at "ev") => `(tactic| repeat' (first | exact ev_c | exact ev_var rfl | exact rv_I0 | refine' rv_I ?_ | refine' rv_eq ?_ | refine' rv_ne ?_ | refine' ev_op ?_ ?_ ?_ | exact ea_nil | refine' ea_cons ?_ ?_ | refine' et_test ?_ | refine' et_B ?_ | refine' et_not ?_ | refine' ev_notV ?_))

open PySem
/-! ### what draws: a dict of the cells, where one stands, what is left of a great one, the state -/
def bagK (l : Addr) (at_ : Nat) (rest state : Int) : List (Key × V) := [(.inr "cells", .ref l), (.inr "at", .int at_), (.inr "rest", .int rest), (.inr "state", .int state)]
def BagAt (H : Hp) (p : Addr) : Prop := ∃ (l : Addr) (ns : List Int) (at_ : Nat) (rest state : Int), H p = some (.dK (bagK l at_ rest state)) ∧ H l = some (.lst (ns.map V.int)) ∧ l ≠ p ∧ at_ ≤ ns.length ∧ ns.length ≤ 63 ∧ 0 ≤ rest ∧ 0 ≤ state ∧ state < 2147483647
theorem BagAt.keep {H H' : Hp} {p : Addr} (h : BagAt H p) (e : Ex H H') : BagAt H' p := by
  obtain ⟨l, ns, at_, rest, state, h1, h2, h3⟩ := h
  exact ⟨l, ns, at_, rest, state, e _ _ h1, e _ _ h2, h3⟩
/-- all but p stays -/
def ExB (p : Addr) (H H' : Hp) : Prop := ∀ b o, H b = some o → b ≠ p → H' b = some o
theorem ExB.of {p : Addr} {H H' : Hp} (e : Ex H H') : ExB p H H' := fun b o h _ => e b o h
theorem ExB.trans {p : Addr} {H H1 H2 : Hp} (a : ExB p H H1) (b : ExB p H1 H2) : ExB p H H2 := fun c o h n => b c o (a c o h n) n
def spBag (K : PySem.W.Frag) : Sp := fun vs H Q _ => ∃ (s : Addr) (ns : List Int), vs = [.ref s] ∧ SqL K H s (ns.map V.int) ∧ ns.length ≤ 63 ∧ ∀ p H', H p = none → Ex H H' → BagAt H' p → Q (.ref p) H'
def spDraw : Sp := fun vs H Q _ => ∃ (p : Addr) (m : Nat), vs = [.ref p, .int m] ∧ BagAt H p ∧ 0 < m ∧ m ≤ 1000 ∧ ∀ (d : Nat) H', d < m → ExB p H H' → BagAt H' p → Q (.int d) H'
theorem bag_ne : (Sum.inr "cells" : Key) ≠ .inr "at" ∧ (Sum.inr "cells" : Key) ≠ .inr "rest" ∧ (Sum.inr "cells" : Key) ≠ .inr "state" ∧ (Sum.inr "at" : Key) ≠ .inr "rest" ∧ (Sum.inr "at" : Key) ≠ .inr "state" ∧ (Sum.inr "rest" : Key) ≠ .inr "state" := by decide +kernel
section
variable {l : Addr} {at_ : Nat} {rest state : Int}
theorem bag_cells : valV (bagK l at_ rest state) (.inr "cells") = some (.ref l) := valV_pos rfl
theorem bag_at : valV (bagK l at_ rest state) (.inr "at") = some (.int at_) := (valV_neg bag_ne.1).trans (valV_pos rfl)
theorem bag_rest : valV (bagK l at_ rest state) (.inr "rest") = some (.int rest) := (valV_neg bag_ne.2.1).trans ((valV_neg bag_ne.2.2.2.1).trans (valV_pos rfl))
theorem bag_state : valV (bagK l at_ rest state) (.inr "state") = some (.int state) := (valV_neg bag_ne.2.2.1).trans ((valV_neg bag_ne.2.2.2.2.1).trans ((valV_neg bag_ne.2.2.2.2.2).trans (valV_pos rfl)))
theorem put_at {n : Nat} : putK (bagK l at_ rest state) (.inr "at") (.int n) = bagK l n rest state := by
  rw [put_some bag_at]
  simp only [bagK, List.map_cons, List.map_nil, if_pos, if_neg bag_ne.1, if_neg bag_ne.2.2.2.1.symm, if_neg bag_ne.2.2.2.2.1.symm]
theorem put_rest {r : Int} : putK (bagK l at_ rest state) (.inr "rest") (.int r) = bagK l at_ r state := by
  rw [put_some bag_rest]
  simp only [bagK, List.map_cons, List.map_nil, if_pos, if_neg bag_ne.2.1, if_neg bag_ne.2.2.2.1, if_neg bag_ne.2.2.2.2.2.symm]
theorem put_state {r : Int} : putK (bagK l at_ rest state) (.inr "state") (.int r) = bagK l at_ rest r := by
  rw [put_some bag_state]
  simp only [bagK, List.map_cons, List.map_nil, if_pos, if_neg bag_ne.2.2.1, if_neg bag_ne.2.2.2.2.1, if_neg bag_ne.2.2.2.2.2]
end
theorem cut_ints (ns : List Int) (lo hi : Option Int) : ∃ ms : List Int, cutV (ns.map V.int) lo hi = ms.map V.int ∧ ms.length ≤ ns.length := by
  refine ⟨(ns.drop (HT.sIx ns.length 0 lo)).take (HT.sIx ns.length ns.length hi - HT.sIx ns.length 0 lo), ?_, ?_⟩
  · unfold cutV
    rw [List.length_map, List.map_take, List.map_drop]
  · rw [List.length_take, List.length_drop]
    omega
section
variable {K : PySem.W.Frag} {σ : L2.St} {H H' : Hp} {ta tb te tx tv : TE} {D : Ends} {tz : TS} {v : V}
theorem el_listN {xs : List V} (h : EvL te σ H xs) : EvL (tCB (fun xs H Q => ∃ p ys, xs = [V.ref p] ∧ (SqL K H p ys ∨ SqT K H p ys) ∧ ∀ l, H l = none → Q (.ref l) (upd H l (.lst ys))) (tCons te tNil)) σ H xs := fun H1 e Q q =>
  h H1 e _ fun p H2 _ e2 h2 => ⟨p, xs, rfl, .inl (sq_of h2), fun l hl => q l _ (fresh_back e2 hl) (e2.trans (Ex.new hl)) upd_same⟩
theorem ev_int {i : Int} (h : Ev te σ H (.int i)) : Ev (tCB (fun xs H Q => (∃ i, xs = [V.int i] ∧ Q (.int i) H) ∨ ∃ k, xs = [V.bl k] ∧ Q (.int (if k then 1 else 0)) H) (tCons te tNil)) σ H (.int i) := fun H1 e Q q => h H1 e _ fun H2 e2 => .inl ⟨i, rfl, q H2 e2⟩
theorem ev_lenS {p : Addr} {xs : List V} (ha : Ev ta σ H (.ref p)) (h : SqL K H p xs) : Ev (tCB (fun xs H Q => ∃ p ys, xs = [V.ref p] ∧ (SqL K H p ys ∨ SqT K H p ys) ∧ Q (.int (ys.length : Nat)) H) (tCons ta tNil)) σ H (.int (xs.length : Nat)) := ev_len ha h
theorem ev_abs {i : Int} (h : Ev te σ H (.int i)) : Ev (tCB (fun xs H Q => ∃ i, xs = [V.int i] ∧ Q (.int (if i < 0 then -i else i)) H) (tCons te tNil)) σ H (.int (if i < 0 then -i else i)) := fun H1 e Q q => h H1 e _ fun H2 e2 => ⟨i, rfl, q H2 e2⟩
/-- a new dict of four, the first entry a new list -/
theorem s_retBag {t1 t2 t3 t4 v1 v2 v3 v4 : TE} {s1 s2 s3 s4 : Str} {xs : List V} {y z u : V} (k1 : Ev t1 σ H (.str s1)) (h1 : EvL v1 σ H xs) (k2 : Ev t2 σ H (.str s2)) (h2 : Ev v2 σ H y) (k3 : Ev t3 σ H (.str s3)) (h3 : Ev v3 σ H z) (k4 : Ev t4 σ H (.str s4)) (h4 : Ev v4 σ H u)
    (ne : (Sum.inr s1 : Key) ≠ .inr s2 ∧ (Sum.inr s1 : Key) ≠ .inr s3 ∧ (Sum.inr s1 : Key) ≠ .inr s4 ∧ (Sum.inr s2 : Key) ≠ .inr s3 ∧ (Sum.inr s2 : Key) ≠ .inr s4 ∧ (Sum.inr s3 : Key) ≠ .inr s4)
    (k : ∀ l p H1, H p = none → Ex H H1 → l ≠ p → H1 l = some (.lst xs) → H1 p = some (.dK [(.inr s1, .ref l), (.inr s2, y), (.inr s3, z), (.inr s4, u)]) → D.rt (.ref p) H1) : tRet (tDisp [(t1, v1), (t2, v2), (t3, v3), (t4, v4)]) D σ H := fun p hp => by
  have e0 : Ex H (upd H p (.dK [])) := Ex.new hp
  refine k1 _ e0 _ fun H2 e2 => h1 H2 (e0.trans e2) _ fun l H3 hl e3 x3 => k2 H3 ((e0.trans e2).trans e3) _ fun H4 e4 => h2 H4 (((e0.trans e2).trans e3).trans e4) _ fun H5 e5 => k3 H5 ((((e0.trans e2).trans e3).trans e4).trans e5) _ fun H6 e6 => h3 H6 (((((e0.trans e2).trans e3).trans e4).trans e5).trans e6) _ fun H7 e7 => k4 H7 ((((((e0.trans e2).trans e3).trans e4).trans e5).trans e6).trans e7) _ fun H8 e8 => h4 H8 (((((((e0.trans e2).trans e3).trans e4).trans e5).trans e6).trans e7).trans e8) _ fun H9 e9 => ?_
  have e29 : Ex (upd H p (.dK [])) H9 := ((((((e2.trans e3).trans e4).trans e5).trans e6).trans e7).trans e8).trans e9
  have lp : l ≠ p := fun q => by rw [q, e2 _ _ upd_same] at hl; cases hl
  refine ⟨e29 _ _ upd_same, [(.inr s1, .ref l), (.inr s2, y), (.inr s3, z), (.inr s4, u)], rfl, by show 4 ≤ 15; decide, ?_⟩
  have m4 : mergeK [] [(.inr s1, V.ref l), (.inr s2, y), (.inr s3, z), (.inr s4, u)] = [(.inr s1, .ref l), (.inr s2, y), (.inr s3, z), (.inr s4, u)] := by
    show putK (mergeK [] [(.inr s1, V.ref l), (.inr s2, y), (.inr s3, z)]) (.inr s4) u = _
    rw [merge3 ne.1 ne.2.1 ne.2.2.2.1]
    exact putK_new u ((valV_neg ne.2.2.1).trans ((valV_neg ne.2.2.2.2.1).trans ((valV_neg ne.2.2.2.2.2).trans rfl)))
  rw [m4]
  exact k l p _ hp (fun b o hb => by rw [upd_ne (ne_of_none hb hp)]; exact e29 _ _ (Ex.new hp _ _ hb)) lp (by rw [upd_ne lp]; exact ((((((e4.trans e5).trans e6).trans e7).trans e8).trans e9)) _ _ x3) upd_same
end
section
variable {P : Program} {w : World} {K : PySem.W.Frag} {mg : Str → Option Value} {base : Heap} {a : Ads}
theorem ok_bag (T : Txt w K mg a) : FnOk P w K mg base CX0 1 a.f__law_bag a.d__law_bag ["_law_script"] (spBag K) := by
  refine T.fn__law_bag.ok sc__law_bag (fun vs H Q E h => ?_) (fun cdv A outer s H vs Q E hr h => ?_)
  · obtain ⟨_, _, rfl, _⟩ := h
    rfl
  · obtain ⟨sc, ns, rfl, hs, hl, k⟩ := h
    refine ⟨_, (pss_cons (ps_set (i := 1) sc__law_bag.nd rfl (Or.inl rfl) pe_int)
    (pss_cons (ps_for PassesOwn.never rfl (pi_list (pe_slice sl_list (pv 0) po_none (po_some pe_int))) (pg_name (i := 2) sc__law_bag.nd rfl (Or.inl rfl)) (pss_one (ps_set (i := 1) sc__law_bag.nd rfl (Or.inl rfl) (pe_op op_mod (pe_callTy call_int1 (by rfl) T.b_int (by decide +kernel) (pa_cons (pe_op op_add (pe_op op_add (pe_op op_mul (pv 1) pe_int) (pe_op op_mod (pe_callB call_abs (by rfl) T.b_abs (by decide +kernel) (pa_cons (pv 2) pa_nil)) pe_int)) pe_int) pa_nil)) pe_int))))
    (pss_one (ps_ret (pe_disp (pps_cons pe_str (pe_callTy call_list_of (by rfl) T.b_list (by decide +kernel) (pa_cons (pe_slice sl_list (pv 0) po_none (po_some pe_int)) pa_nil)) (pps_cons pe_str pe_int (pps_cons pe_str pe_int (pps_cons pe_str (pv 1) pps_nil)))) (by rfl) (by rfl) (fun z => by cases z) (by decide)))))), ?_⟩
    obtain ⟨ms, e, hm⟩ := cut_ints ns none (some 63)
    refine q_asg (v := .int 7) ev_c fun H1 e1 => ?_
    refine q_forNL (K := K) (xs := ms.map V.int) (el_is (el_sl (K := K) (ev_var rfl) eo_none (eo_some ev_c) (ex_l e1 hs)) e) (fun p i σ' H' => ∃ (st : Int) (o2 : Option V), σ' = [some (.ref sc), some (.int st), o2] ∧ 0 ≤ st ∧ st < 2147483647 ∧ Ex H H' ∧ H' p = some (.lst (ms.map V.int))) (fun p H2 _ e2 h2 => ⟨7, _, rfl, by decide, by decide, e1.trans e2, h2⟩) (fun p i σ' H' _ q => by
      obtain ⟨_, _, _, _, _, _, h2⟩ := q
      exact sq_of h2) (fun p i x σ' H2 hx q => ?_) (fun p σ' H2 q => ?_)
    · obtain ⟨st, o2, rfl, s0, s1, e2, h2⟩ := q
      rw [List.getElem?_map] at hx
      obtain ⟨c, hc, rfl⟩ := Option.map_eq_some_iff.mp hx
      refine s_asg (v := .int ((st * 69621 + (if c < 0 then -c else c) % 2147483629 + 11) % 2147483647)) (ev_op (ev_int (ev_op (ev_op (ev_op (ev_var rfl) ev_c (rv_I (.inl ⟨by omega, by omega⟩))) (ev_op (ev_abs (ev_var rfl)) ev_c (rv_I (by decide))) rv_I0) ev_c rv_I0)) ev_c (rv_I (by decide))) fun H3 e3 => ⟨_, _, rfl, Int.emod_nonneg _ (by decide), Int.emod_lt_of_pos _ (by decide), e2.trans e3, e3 _ _ h2⟩
    · obtain ⟨st, o2, rfl, s0, s1, e2, h2⟩ := q
      refine s_retBag ev_c (el_listN (K := K) (el_is (el_sl (K := K) (ev_var rfl) eo_none (eo_some ev_c) (ex_l e2 hs)) e)) ev_c ev_c ev_c ev_c ev_c (ev_var rfl) bag_ne fun l p H3 hp e3 lp h3 hd => ?_
      exact k p H3 (fresh_back e2 hp) (e2.trans e3) ⟨l, ms, 0, 0, st, hd, h3, lp, Nat.zero_le _, by omega, Int.le_refl 0, s0, s1⟩
end
end KC
set_option Elab.async false
set_option linter.all false
set_option maxRecDepth 100000
set_option maxHeartbeats 4000000
namespace KC
open PySem PySem.Spec PyProof.Rows L2 Evl
local macro_rules | `(tactic| walk_at "ev") => `(tactic| repeat' (first | exact ev_c | exact ev_var rfl | exact rv_I0 | refine' rv_I ?_ | refine' rv_eq ?_ | refine' rv_ne ?_ | refine' ev_op ?_ ?_ ?_ | exact ea_nil | refine' ea_cons ?_ ?_ | refine' et_test ?_ | refine' et_B ?_ | refine' et_not ?_ | refine' ev_notV ?_))

open PySem
theorem q_dputS {σ : L2.St} {H : Hp} {ta tb tv : TE} {v : V} {D : Ends} {tz : TS} {d : Addr} {kvs : List (Key × V)} {s : Str} (hv : Ev tv σ H v) (h : Ev ta σ H (.ref d)) (hk : Ev tb σ H (.str s)) (hd : H d = some (.dK kvs)) (hl : kvs.length < 1000) (k : ∀ H1, Ex H H1 → tz D σ (upd H1 d (.dK (putK kvs (.inr s) v)))) : tSeq (sDPut ta tb tv) tz D σ H :=
  q_dput (D := { D with nx := tz D }) hv h hk hd hl k
section
variable {P : Program} {w : World} {K : PySem.W.Frag} {mg : Str → Option Value} {base : Heap} {a : Ads}
theorem ok_draw (T : Txt w K mg a) : FnOk P w K mg base CX0 1 a.f__law_draw a.d__law_draw ["_law_bag_here", "_law_limit"] spDraw := by
  refine T.fn__law_draw.ok sc__law_draw (fun vs H Q E h => ?_) (fun cdv A outer s H vs Q E hr h => ?_)
  · obtain ⟨_, _, rfl, _⟩ := h
    rfl
  · obtain ⟨p, m, rfl, ⟨l, ns, at0, rest0, st, hp, hl, lp, hat, hlen, hr0, hs0, hs1⟩, hm0, hm, k⟩ := h
    have hu := hu_of hr
    have hm1 : (0 : Int) < (m : Int) := by omega
    refine ⟨_, (pss_cons (ps_while PassesOwn.never (PW.pt (pw_and (pt_cmpR op_lt (pe_dget hu (pv 0) pe_str (fun _ _ => rfl)) pe_int (nomark _)) (pw_and1 (pt_cmpR op_lt (pe_dget hu (pv 0) pe_str (fun _ _ => rfl)) (pe_callB call_len_seq (by rfl) T.b_len PySem.boot_len (pa_cons (pe_dget hu (pv 0) pe_str (fun _ _ => rfl)) pa_nil)) (nomark _))))) (pss_cons (ps_set (i := 2) sc__law_draw.nd rfl (Or.inl rfl) (pe_callB call_abs (by rfl) T.b_abs (by decide +kernel) (pa_cons (pe_ix ix_list (pe_dget hu (pv 0) pe_str (fun _ _ => rfl)) (pe_dget hu (pv 0) pe_str (fun _ _ => rfl)) (fun _ _ => rfl)) pa_nil)))
    (pss_cons (ps_dput hu (pv 0) pe_str (pe_op op_add (pe_dget hu (pv 0) pe_str (fun _ _ => rfl)) pe_int) rfl)
    (pss_cons (ps_if (pt_cmpR op_lt (pv 2) (pe_op op_pow pe_int pe_int) (nomark _)) (pss_cons (ps_set (i := 3) sc__law_draw.nd rfl (Or.inl rfl) (pe_op op_mod (pe_callTy call_int1 (by rfl) T.b_int (by decide +kernel) (pa_cons (pe_op op_add (pe_op op_pow (pe_op op_add (pv 2) pe_int) pe_int) (pe_op op_mul (pe_dget hu (pv 0) pe_str (fun _ _ => rfl)) (pe_op op_add (pe_dget hu (pv 0) pe_str (fun _ _ => rfl)) pe_int))) pa_nil)) pe_int))
    (pss_one (ps_ret (pe_op op_mod (pv 3) (pv 1))))) pss_nil)
    (pss_one (ps_dput hu (pv 0) pe_str (pv 2) rfl))))))
    (pss_cons (ps_if (pt_cmpR op_ge (pe_dget hu (pv 0) pe_str (fun _ _ => rfl)) pe_int (nomark _)) (pss_cons (ps_set (i := 4) sc__law_draw.nd rfl (Or.inl rfl) (pe_op op_mod (pe_callTy call_int1 (by rfl) T.b_int (by decide +kernel) (pa_cons (pe_dget hu (pv 0) pe_str (fun _ _ => rfl)) pa_nil)) (pv 1)))
    (pss_cons (ps_dput hu (pv 0) pe_str (pe_op op_fdiv (pe_dget hu (pv 0) pe_str (fun _ _ => rfl)) (pv 1)) rfl)
    (pss_one (ps_ret (pv 4))))) pss_nil)
    (pss_cons (ps_dput hu (pv 0) pe_str (pe_op op_mod (pe_callTy call_int1 (by rfl) T.b_int (by decide +kernel) (pa_cons (pe_op op_add (pe_op op_mul (pe_dget hu (pv 0) pe_str (fun _ _ => rfl)) pe_int) pe_int) pa_nil)) pe_int) rfl)
    (pss_one (ps_ret (pe_op op_mod (pe_op op_mod (pe_callTy call_int1 (by rfl) T.b_int (by decide +kernel) (pa_cons (pe_op op_pow (pe_dget hu (pv 0) pe_str (fun _ _ => rfl)) pe_int) pa_nil)) pe_int) (pv 1))))))), ?_⟩
    have fin : ∀ (H1 : Hp) (x : Int) (b : Nat) (r s' : Int), ExB p H H1 → H1 p = some (.dK (bagK l b r s')) → b ≤ ns.length → 0 ≤ r → 0 ≤ s' → s' < 2147483647 → 0 ≤ x → x < m → Q (.int x) H1 := fun H1 x b r s' e h hb hr h0 h1 hx hx2 => by
      have ex : x = (x.toNat : Nat) := by omega
      rw [ex]
      exact k x.toNat H1 (by omega) e ⟨l, ns, b, r, s', h, e _ _ hl lp, lp, hb, hlen, hr, h0, h1⟩
    have h18 : (10 : Int) ^ (18 : Int).toNat = 1000000000000000000 := by decide
    let W : Nat → L2.St → Hp → Prop := fun mm σ' H' => ∃ (b : Nat) (r : Int) (o2 o3 o4 : Option V), mm = ns.length - b ∧ σ' = [some (.ref p), some (.int (m : Nat)), o2, o3, o4] ∧ ExB p H H' ∧ H' p = some (.dK (bagK l b r st)) ∧ b ≤ ns.length ∧ 0 ≤ r
    refine q_while W (ns.length - at0) ⟨at0, rest0, _, _, _, rfl, rfl, ExB.of (Ex.refl H), hp, hat, hr0⟩ fun mm σ' H' q => ?_
    obtain ⟨b, r, o2, o3, o4, rfl, rfl, e, hp', hb, hr'⟩ := q
    have hl' := e _ _ hl lp
    refine ⟨_, et_and (et_test (ev_op (ev_dget (ev_var rfl) ev_c hp' bag_rest) ev_c rv_I0)) (fun _ => et_test (ev_op (ev_dget (ev_var rfl) ev_c hp' bag_at) (ev_lenS (K := K) (ev_dget (ev_var rfl) ev_c hp' bag_cells) (sq_of hl')) rv_I0)), fun hb2 H1 e1 => ?_, fun _ H1 e1 => ?_⟩
    · have hlt : b < ns.length := by
        have := of_decide_eq_true (Bool.and_eq_true_iff.mp hb2).2
        rw [List.length_map] at this
        omega
      have hc : atI (ns.map V.int) ((b : Nat) : Int) = some (.int ns[b]) := atI_nat (by simp [hlt])
      generalize ns[b] = c at hc
      have hp1 := e1 _ _ hp'
      have hl1 := e1 _ _ hl'
      refine ⟨fun σ2 H2 => ∃ m', m' < ns.length - b ∧ W m' σ2 H2, fun σ2 H2 h => h, ?_⟩
      refine q_asg (v := .int (if c < 0 then -c else c)) (ev_abs (ev_op (ev_dget (ev_var rfl) ev_c hp1 bag_cells) (ev_dget (ev_var rfl) ev_c hp1 bag_at) (rv_ixL (K := K) (sq_of hl1) hc))) fun H2 e2 => ?_
      have c0 : 0 ≤ (if c < 0 then -c else c) := by split <;> omega
      generalize (if c < 0 then -c else c) = z at c0
      have hp2 := e2 _ _ hp1
      refine q_dputS (v := .int ((b + 1 : Nat) : Int)) (ev_is (ev_op (ev_dget (ev_var rfl) ev_c hp2 bag_at) ev_c rv_I0) (by rw [Int.natCast_add] <;> rfl)) (ev_var rfl) ev_c hp2 (by show 4 < 1000; decide) fun H3 e3 => ?_
      rw [put_at]
      have e4 : ExB p H (upd H3 p (.dK (bagK l (b + 1) r st))) := fun d o hd ne => by rw [upd_ne ne]; exact ((e1.trans e2).trans e3) _ _ (e _ _ hd ne)
      have hp4 : upd H3 p (.dK (bagK l (b + 1) r st)) p = some (.dK (bagK l (b + 1) r st)) := upd_same
      generalize upd H3 p (.dK (bagK l (b + 1) r st)) = H4 at e4 hp4
      refine q_when (et_test (ev_op (ev_var rfl) (ev_op ev_c ev_c (rv_I ⟨by decide, by decide, by decide⟩)) rv_I0)) (fun hz H5 e5 => ?_) (fun hz H5 e5 => ?_)
      · have hz := of_decide_eq_true hz
        rw [h18] at hz
        have hp5 := e5 _ _ hp4
        refine q_asg (v := .int (((z + 3) ^ (3 : Int).toNat + st * (((b + 1 : Nat) : Int) + 1)) % 2147483629)) (ev_op (ev_int (ev_op (ev_op (ev_op (ev_var rfl) ev_c rv_I0) ev_c (rv_I ⟨by decide, by decide, by omega⟩)) (ev_op (ev_dget (ev_var rfl) ev_c hp5 bag_state) (ev_op (ev_dget (ev_var rfl) ev_c hp5 bag_at) ev_c rv_I0) (rv_I (.inl ⟨by omega, by omega⟩))) rv_I0)) ev_c (rv_I (by decide))) fun H6 e6 => ?_
        refine s_ret (ev_op (ev_var rfl) (ev_var rfl) (rv_I (by omega))) fun H7 e7 => ?_
        exact fin H7 _ (b + 1) r st (e4.trans (ExB.of ((e5.trans e6).trans e7))) (e7 _ _ (e6 _ _ hp5)) (by omega) hr' hs0 hs1 (Int.emod_nonneg _ (by omega)) (Int.emod_lt_of_pos _ hm1)
      · have hp5 := e5 _ _ hp4
        refine q_dput (v := .int z) (ev_var rfl) (ev_var rfl) ev_c hp5 (by show 4 < 1000; decide) fun H6 e6 => ?_
        rw [put_rest]
        exact ⟨ns.length - (b + 1), by omega, b + 1, z, _, _, _, rfl, rfl, fun d o hd ne => by rw [upd_ne ne]; exact (e5.trans e6) _ _ (e4 _ _ hd ne), upd_same, by omega, c0⟩
    · have hp1 := e1 _ _ hp'
      refine q_when (et_test (ev_op (ev_dget (ev_var rfl) ev_c hp1 bag_rest) ev_c rv_I0)) (fun _ H2 e2 => ?_) (fun _ H2 e2 => ?_)
      · have hp2 := e2 _ _ hp1
        refine q_asg (v := .int (r % m)) (ev_op (ev_int (ev_dget (ev_var rfl) ev_c hp2 bag_rest)) (ev_var rfl) (rv_I (by omega))) fun H3 e3 => ?_
        have hp3 := e3 _ _ hp2
        refine q_dputS (v := .int (r / m)) (ev_op (ev_dget (ev_var rfl) ev_c hp3 bag_rest) (ev_var rfl) (rv_I ⟨by omega, by omega⟩)) (ev_var rfl) ev_c hp3 (by show 4 < 1000; decide) fun H4 e4 => ?_
        rw [put_rest]
        refine s_ret (v := .int (r % m)) (ev_var rfl) fun H5 e5 => ?_
        exact fin H5 _ b (r / m) st (e.trans (fun d o hd ne => e5 _ _ (by rw [upd_ne ne]; exact (((e1.trans e2).trans e3).trans e4) _ _ hd))) (e5 _ _ upd_same) hb (Int.ediv_nonneg hr' (by omega)) hs0 hs1 (Int.emod_nonneg _ (by omega)) (Int.emod_lt_of_pos _ hm1)
      · have hp2 := e2 _ _ hp1
        refine q_dputS (v := .int ((st * 48271 + 13) % 2147483647)) (ev_op (ev_int (ev_op (ev_op (ev_dget (ev_var rfl) ev_c hp2 bag_state) ev_c (rv_I (.inl ⟨by omega, by omega⟩))) ev_c rv_I0)) ev_c (rv_I (by decide))) (ev_var rfl) ev_c hp2 (by show 4 < 1000; decide) fun H3 e3 => ?_
        rw [put_state]
        have n0 : 0 ≤ (st * 48271 + 13) % 2147483647 := Int.emod_nonneg _ (by decide)
        have n1 : (st * 48271 + 13) % 2147483647 < 2147483647 := Int.emod_lt_of_pos _ (by decide)
        generalize (st * 48271 + 13) % 2147483647 = s2 at n0 n1
        refine s_ret (ev_op (ev_op (ev_int (ev_op (ev_dget (ev_var rfl) ev_c upd_same bag_state) ev_c (rv_I ⟨by decide, by decide, by omega⟩))) ev_c (rv_I (by decide))) (ev_var rfl) (rv_I (by omega))) fun H4 e4 => ?_
        exact fin H4 _ b r s2 (e.trans (fun d o hd ne => e4 _ _ (by rw [upd_ne ne]; exact ((e1.trans e2).trans e3) _ _ hd))) (e4 _ _ upd_same) hb hr' n0 n1 (Int.emod_nonneg _ (by omega)) (Int.emod_lt_of_pos _ hm1)
end
end KC
set_option Elab.async false
set_option linter.all false
set_option maxRecDepth 100000
set_option maxHeartbeats 4000000
namespace KC
open PySem PySem.Spec PyProof.Rows L2 Evl
local macro_rules | `(tactic| walk_at "ev") => `(tactic| repeat' (first | exact ev_c | exact ev_var rfl | exact rv_I0 | refine' rv_I ?_ | refine' rv_eq ?_ | refine' rv_ne ?_ | refine' ev_op ?_ ?_ ?_ | exact ea_nil | refine' ea_cons ?_ ?_ | refine' et_test ?_ | refine' et_B ?_ | refine' et_not ?_ | refine' ev_notV ?_))

open PySem
/-! ### _law_same of two things of one shape -/
def At (H : Hp) (k : Bool) (p : Addr) (xs : List V) : Prop := H p = some (if k = true then .tup xs else .lst xs)
def tyN (k : Bool) : String := if k = true then "tuple" else "list"
inductive SD (H : Hp) : Nat → V → V → Prop
  | int (n : Nat) (i : Int) : SD H n (.int i) (.int i)
  | str (n : Nat) (s : Str) : SD H n (.str s) (.str s)
  | bl (n : Nat) (b : Bool) : SD H n (.bl b) (.bl b)
  | seq {n : Nat} (k : Bool) {p q : Addr} {xs ys : List V} (hp : At H k p xs) (hq : At H k q ys) (l : xs.length = ys.length) (short : ys.length ≤ 1000) (all : ∀ (i : Nat) (x y : V), xs[i]? = some x → ys[i]? = some y → SD H n x y) : SD H (n + 1) (.ref p) (.ref q)
theorem SD.mono {H H' : Hp} {n : Nat} {x y : V} (h : SD H n x y) (e : Ex H H') : SD H' n x y := by
  induction h with
  | int n i => exact .int n i
  | str n s => exact .str n s
  | bl n b => exact .bl n b
  | seq k hp hq l short all ih => exact .seq k (e _ _ hp) (e _ _ hq) l short ih
def spSame (n : Nat) : Sp := fun vs H Q _ => ∃ x y : V, vs = [x, y] ∧ SD H n x y ∧ ∀ H', Ex H H' → Q (.bl true) H'
def spG : Nat → Sp
  | 0 => fun _ _ _ _ => False
  | n + 1 => spSame n
section
variable {K : PySem.W.Frag} {σ : L2.St} {H H' : Hp} {ta tb te : TE} {x y z v : V} {t : Value} {b k : Bool} {p : Addr} {xs : List V} {i : Nat}
theorem At.ty (h : At H k p xs) : TyX K H (.ref p) (.type (tyN k)) := by
  cases k with
  | true => exact .base (.tup h)
  | false => exact .base (.lst h)
theorem At.sq (h : At H k p xs) : SqL K H p xs ∨ SqT K H p xs := by
  cases k with
  | true => exact .inr (st_of h)
  | false => exact .inl (sq_of h)
theorem ev_isiT2 (ha : Ev ta σ H x) (ty : ∀ H', Ex H H' → TyX K H' x t) (e : PySem.W.kitAny K t [.type "tuple", .type "list"] = some b) : Ev (tCB (rIsiT K) (tCons ta (tCons (tTup (tCons (tC (.ty "tuple")) (tCons (tC (.ty "list")) tNil))) tNil))) σ H (.bl b) := fun H1 e1 Q q =>
  ha H1 e1 _ fun H2 e2 => ⟨by show 2 ≤ sizeLine; decide, fun tp ht => ⟨x, tp, [.ty "tuple", .ty "list"], t, [.type "tuple", .type "list"], b, rfl, upd_same, .cons (.ty _) (.cons (.ty _) .nil), ty _ ((e1.trans e2).trans (Ex.new ht)), e, q _ (e2.trans (Ex.new ht))⟩⟩
theorem ev_lenX (ha : Ev ta σ H (.ref p)) (h : At H k p xs) : Ev (tCB (fun xs H Q => ∃ p ys, xs = [V.ref p] ∧ (SqL K H p ys ∨ SqT K H p ys) ∧ Q (.int (ys.length : Nat)) H) (tCons ta tNil)) σ H (.int (xs.length : Nat)) := fun H1 e Q q =>
  ha H1 e _ fun H2 e2 => ⟨p, xs, rfl, At.sq (k := k) (e2 _ _ (e _ _ h)), q H2 e2⟩
theorem rv_ixX (h : At H k p xs) (hx : xs[i]? = some x) : RV (rIx K) (.ref p) (.int (i : Nat)) H x := fun H1 e Q q => by
  have h1 : At H1 k p xs := e _ _ h
  rcases h1.sq (K := K) with s | s
  · exact .inl ⟨p, xs, i, x, rfl, rfl, s, atI_nat hx, q H1 (Ex.refl H1)⟩
  · exact .inr (.inl ⟨p, xs, i, x, rfl, rfl, s, atI_nat hx, q H1 (Ex.refl H1)⟩)
theorem rv_isN {x : V} : RV (fun x y H Q => y = .non ∧ Q (.bl (decide (x = .non))) H) x .non H (.bl (decide (x = .non))) := fun H1 _ _ q => ⟨rfl, q H1 (Ex.refl H1)⟩
theorem kit_seq (k : Bool) : PySem.W.kitAny K (.type (tyN k)) [.type "tuple", .type "list"] = some true := by
  cases k with
  | true => exact kitAny_cons (b := true) (kit_ty (by decide +kernel)) (fun z => nomatch z) (fun _ => rfl)
  | false => exact kitAny_cons (b := false) (kit_ty (by decide +kernel)) (fun _ => kitAny_cons (b := true) (kit_ty (by decide +kernel)) (fun z => nomatch z) (fun _ => rfl)) (fun z => nomatch z)
theorem kit_tup (k : Bool) : PySem.W.kitOne K (.type (tyN k)) (.type "tuple") = some k := by
  cases k with
  | true => exact kit_ty (by decide +kernel)
  | false => exact kit_ty (by decide +kernel)
theorem kit_nseq {n : String} (h1 : kitB n "tuple" = some false) (h2 : kitB n "list" = some false) : PySem.W.kitAny K (.type n) [.type "tuple", .type "list"] = some false :=
  kitAny_cons (b := false) (kit_ty h1) (fun _ => kitAny_cons (b := false) (kit_ty h2) (fun _ => rfl) (fun z => nomatch z)) (fun z => nomatch z)
end
section
variable {P : Program} {w : World} {K : PySem.W.Frag} {mg : Str → Option Value} {base : Heap} {a : Ads}
theorem ok_sameG (T : Txt w K mg a) : ∀ n, FnOk P w K mg base CX0 n a.f__law_same a.d__law_same ["_law_actual", "_law_expected"] (spG n)
  | 0 => ⟨fun _ _ _ _ h => h.elim, fun _ _ _ _ _ _ _ _ _ _ _ _ _ h => h.elim⟩
  | n + 1 => by
    have G__law_same : FnOk P w K mg base CX0 n _ _ _ _ := ok_sameG T n
    refine T.fn__law_same.ok sc__law_same (fun vs H Q E h => ?_) (fun cdv A outer s H vs Q E hr h => ?_)
    · obtain ⟨_, _, rfl, _⟩ := h
      rfl
    · obtain ⟨x, y, rfl, sd, k⟩ := h
      have hrc : Room n _ := hr
      refine ⟨_, (pss_cons (ps_if (pt_val (pe_callB call_isiT (by rfl) T.b_isinstance PyProof.Rows.boot_isinstance (pa_cons (pv 1) (pa_cons (pe_tup (pa_cons (pe_bltn (v := .ty "tuple") (by rfl) T.b_tuple (by decide +kernel) rfl) (pa_cons (pe_bltn (v := .ty "list") (by rfl) T.b_list (by decide +kernel) rfl) pa_nil))) pa_nil)))) (pss_cons (ps_if (PW.pt (pw_or (pt_cmpR op_ne (pe_callB call_isi (by rfl) T.b_isinstance PyProof.Rows.boot_isinstance (pa_cons (pv 1) (pa_cons (pe_bltn (v := .ty "tuple") (by rfl) T.b_tuple (by decide +kernel) rfl) pa_nil))) (pe_callB call_isi (by rfl) T.b_isinstance PyProof.Rows.boot_isinstance (pa_cons (pv 0) (pa_cons (pe_bltn (v := .ty "tuple") (by rfl) T.b_tuple (by decide +kernel) rfl) pa_nil))) (nomark _)) (pw_or1 (pt_not (pt_val (pe_callB call_isiT (by rfl) T.b_isinstance PyProof.Rows.boot_isinstance (pa_cons (pv 0) (pa_cons (pe_tup (pa_cons (pe_bltn (v := .ty "tuple") (by rfl) T.b_tuple (by decide +kernel) rfl) (pa_cons (pe_bltn (v := .ty "list") (by rfl) T.b_list (by decide +kernel) rfl) pa_nil))) pa_nil)))))))) (pss_one (ps_ret pe_bl)) pss_nil)
    (pss_cons (ps_if (pt_cmpR op_ne (pe_callB call_len_seq (by rfl) T.b_len PySem.boot_len (pa_cons (pv 0) pa_nil)) (pe_callB call_len_seq (by rfl) T.b_len PySem.boot_len (pa_cons (pv 1) pa_nil)) (nomark _)) (pss_one (ps_ret pe_bl)) pss_nil)
    (pss_cons (ps_for PassesOwn.never rfl (pi_range1 rfl T.b_range (pa_cons (pe_callB call_len_seq (by rfl) T.b_len PySem.boot_len (pa_cons (pv 1) pa_nil)) pa_nil)) (pg_name (i := 2) sc__law_same.nd rfl (Or.inl rfl)) (pss_one (ps_if (pt_not (pt_val (pe_call G__law_same hrc rfl T.mg__law_same T.fn__law_same.kp (bd__law_same T) .nil pass0 (pa_cons (pe_ix ix_seq (pv 0) (pv 2) (fun _ _ => rfl)) (pa_cons (pe_ix ix_seq (pv 1) (pv 2) (fun _ _ => rfl)) pa_nil))))) (pss_one (ps_ret pe_bl)) pss_nil)))
    (pss_one (ps_ret pe_bl))))) pss_nil)
    (pss_cons (ps_if (pt_cmpR op_isN (pv 1) pe_non (nomark _)) (pss_one (ps_ret (pe_cmpR op_isN (pv 0) pe_non (nomark _)))) pss_nil)
    (pss_cons (ps_if (pt_val (pe_callB call_isi (by rfl) T.b_isinstance PyProof.Rows.boot_isinstance (pa_cons (pv 1) (pa_cons (pe_bltn (v := .ty "bool") (by rfl) T.b_bool (by decide +kernel) rfl) pa_nil)))) (pss_one (ps_ret (pe_and (pe_callB call_isi (by rfl) T.b_isinstance PyProof.Rows.boot_isinstance (pa_cons (pv 0) (pa_cons (pe_bltn (v := .ty "bool") (by rfl) T.b_bool (by decide +kernel) rfl) pa_nil))) (pe_one (pe_cmpR op_eq (pv 0) (pv 1) (nomark _)))))) pss_nil)
    (pss_cons (ps_if (pt_val (pe_callB call_isi (by rfl) T.b_isinstance PyProof.Rows.boot_isinstance (pa_cons (pv 1) (pa_cons (pe_bltn (v := .ty "int") (by rfl) T.b_int (by decide +kernel) rfl) pa_nil)))) (pss_one (ps_ret (pe_and (pe_callB call_isi (by rfl) T.b_isinstance PyProof.Rows.boot_isinstance (pa_cons (pv 0) (pa_cons (pe_bltn (v := .ty "int") (by rfl) T.b_int (by decide +kernel) rfl) pa_nil))) (pe_and (pe_not (pe_callB call_isi (by rfl) T.b_isinstance PyProof.Rows.boot_isinstance (pa_cons (pv 0) (pa_cons (pe_bltn (v := .ty "bool") (by rfl) T.b_bool (by decide +kernel) rfl) pa_nil)))) (pe_one (pe_cmpR op_eq (pv 0) (pv 1) (nomark _))))))) pss_nil)
    (pss_one (ps_ret (pe_and (pe_callB call_isi (by rfl) T.b_isinstance PyProof.Rows.boot_isinstance (pa_cons (pv 0) (pa_cons (pe_bltn (v := .ty "str") (by rfl) T.b_str (by decide +kernel) rfl) pa_nil))) (pe_one (pe_cmpR op_eq (pv 0) (pv 1) (nomark _)))))))))), ?_⟩
      cases sd with
      | int _ i =>
        refine q_when (b := false) (et_B (ev_isiT2 (K := K) (ev_var rfl) (fun _ _ => .base (.int _)) (kit_nseq (by decide +kernel) (by decide +kernel)))) (fun z => nomatch z) fun _ H1 e1 => ?_
        refine q_when (b := false) (et_is (et_test (ev_op (ev_var rfl) ev_c rv_isN)) rfl) (fun z => nomatch z) fun _ H2 e2 => ?_
        refine q_when (b := false) (et_B (ev_isi (ea_cons (ev_var rfl) (ea_cons ev_c ea_nil)) (.ty _) (fun _ _ => .base (.int _)) (kit_ty (by decide +kernel)))) (fun z => nomatch z) fun _ H3 e3 => ?_
        refine q_when (b := true) (et_B (ev_isi (ea_cons (ev_var rfl) (ea_cons ev_c ea_nil)) (.ty _) (fun _ _ => .base (.int _)) (kit_ty (by decide +kernel)))) (fun _ H4 e4 => ?_) (fun z => nomatch z)
        exact s_ret (v := .bl true) (ev_is (ev_andV (a := true) (ev_isi (ea_cons (ev_var rfl) (ea_cons ev_c ea_nil)) (.ty _) (fun _ _ => .base (.int _)) (kit_ty (by decide +kernel))) fun _ => ev_andV (a := true) (ev_is (ev_notV (a := false) (ev_isi (ea_cons (ev_var rfl) (ea_cons ev_c ea_nil)) (.ty _) (fun _ _ => .base (.int _)) (kit_ty (by decide +kernel)))) rfl) fun _ => ev_op (ev_var rfl) (ev_var rfl) (rv_eq rfl)) (by simp)) fun H5 e5 => k H5 ((((e1.trans e2).trans e3).trans e4).trans e5)
      | bl _ bb =>
        refine q_when (b := false) (et_B (ev_isiT2 (K := K) (ev_var rfl) (fun _ _ => .base (.bl _)) (kit_nseq (by decide +kernel) (by decide +kernel)))) (fun z => nomatch z) fun _ H1 e1 => ?_
        refine q_when (b := false) (et_is (et_test (ev_op (ev_var rfl) ev_c rv_isN)) rfl) (fun z => nomatch z) fun _ H2 e2 => ?_
        refine q_when (b := true) (et_B (ev_isi (ea_cons (ev_var rfl) (ea_cons ev_c ea_nil)) (.ty _) (fun _ _ => .base (.bl _)) (kit_ty (by decide +kernel)))) (fun _ H3 e3 => ?_) (fun z => nomatch z)
        exact s_ret (v := .bl true) (ev_is (ev_andV (a := true) (ev_isi (ea_cons (ev_var rfl) (ea_cons ev_c ea_nil)) (.ty _) (fun _ _ => .base (.bl _)) (kit_ty (by decide +kernel))) fun _ => ev_op (ev_var rfl) (ev_var rfl) (rv_eq rfl)) (by simp)) fun H4 e4 => k H4 (((e1.trans e2).trans e3).trans e4)
      | str _ st =>
        refine q_when (b := false) (et_B (ev_isiT2 (K := K) (ev_var rfl) (fun _ _ => .base (.str _)) (kit_nseq (by decide +kernel) (by decide +kernel)))) (fun z => nomatch z) fun _ H1 e1 => ?_
        refine q_when (b := false) (et_is (et_test (ev_op (ev_var rfl) ev_c rv_isN)) rfl) (fun z => nomatch z) fun _ H2 e2 => ?_
        refine q_when (b := false) (et_B (ev_isi (ea_cons (ev_var rfl) (ea_cons ev_c ea_nil)) (.ty _) (fun _ _ => .base (.str _)) (kit_ty (by decide +kernel)))) (fun z => nomatch z) fun _ H3 e3 => ?_
        refine q_when (b := false) (et_B (ev_isi (ea_cons (ev_var rfl) (ea_cons ev_c ea_nil)) (.ty _) (fun _ _ => .base (.str _)) (kit_ty (by decide +kernel)))) (fun z => nomatch z) fun _ H4 e4 => ?_
        exact s_ret (v := .bl true) (ev_is (ev_andV (a := true) (ev_isi (ea_cons (ev_var rfl) (ea_cons ev_c ea_nil)) (.ty _) (fun _ _ => .base (.str _)) (kit_ty (by decide +kernel))) fun _ => ev_op (ev_var rfl) (ev_var rfl) (rv_eq rfl)) (by simp)) fun H5 e5 => k H5 ((((e1.trans e2).trans e3).trans e4).trans e5)
      | @seq m kd p q xs ys hp hq l short all =>
        refine q_when (b := true) (et_B (ev_isiT2 (K := K) (ev_var rfl) (fun H' e' => At.ty (k := kd) (e' _ _ hq)) (kit_seq kd))) (fun _ H1 e1 => ?_) (fun z => nomatch z)
        have hp1 : At H1 kd p xs := e1 _ _ hp
        have hq1 : At H1 kd q ys := e1 _ _ hq
        refine q_when (b := false) (et_is (et_or (et_test (ev_op (ev_isi (ea_cons (ev_var rfl) (ea_cons ev_c ea_nil)) (.ty _) (fun H' e' => At.ty (k := kd) (e' _ _ hq1)) (kit_tup kd)) (ev_isi (ea_cons (ev_var rfl) (ea_cons ev_c ea_nil)) (.ty _) (fun H' e' => At.ty (k := kd) (e' _ _ hp1)) (kit_tup kd)) (rv_ne rfl))) fun _ => et_not (a := true) (et_B (ev_isiT2 (K := K) (ev_var rfl) (fun H' e' => At.ty (k := kd) (e' _ _ hp1)) (kit_seq kd)))) (by simp)) (fun z => nomatch z) fun _ H2 e2 => ?_
        have hp2 : At H2 kd p xs := e2 _ _ hp1
        have hq2 : At H2 kd q ys := e2 _ _ hq1
        refine q_when (b := false) (et_is (et_test (ev_op (ev_lenX (K := K) (ev_var rfl) hp2) (ev_lenX (K := K) (ev_var rfl) hq2) (rv_ne rfl))) (by rw [l]; simp)) (fun z => nomatch z) fun _ H3 e3 => ?_
        have e03 := (e1.trans e2).trans e3
        have hq3 : At H3 kd q ys := e3 _ _ hq2
        refine q_forR1 (n := (ys.length : Nat)) (ea_cons (ev_lenX (K := K) (ev_var rfl) hq3) ea_nil) (by omega) (fun j σ' H' => ∃ o2, σ' = [some (.ref p), some (.ref q), o2] ∧ Ex H H') (fun H4 e4 => ⟨_, rfl, e03.trans e4⟩) (fun j σ' H4 hj inv => ?_) (fun σ' H4 inv => ?_)
        · obtain ⟨o2, rfl, e4⟩ := inv
          have hj2 : j < ys.length := by omega
          have hj1 : j < xs.length := by omega
          have hp4 : At H4 kd p xs := e4 _ _ hp
          have hq4 : At H4 kd q ys := e4 _ _ hq
          refine s_when (b := false) (et_not (a := true) (et_B (ev_call (vs := [xs[j], ys[j]]) (ea_cons (ev_op (ev_var rfl) (ev_var rfl) (rv_ixX (K := K) hp4 (by simp [hj1]))) (ea_cons (ev_op (ev_var rfl) (ev_var rfl) (rv_ixX (K := K) hq4 (by simp [hj2]))) ea_nil)) fun H5 e5 Q5 q5 E5 => ⟨xs[j], ys[j], rfl, (all j _ _ (by simp [hj1]) (by simp [hj2])).mono (e4.trans e5), q5⟩))) (fun z => nomatch z) fun _ H5 e5 => ⟨_, rfl, e4.trans e5⟩
        · obtain ⟨o2, rfl, e4⟩ := inv
          exact s_ret (v := .bl true) ev_c fun H5 e5 => k H5 (e4.trans e5)
end
end KC
set_option Elab.async false
set_option linter.all false
set_option maxRecDepth 100000
set_option maxHeartbeats 4000000
namespace KC
open PySem PySem.Spec PyProof.Rows L2 Evl
local macro_rules | `(tactic| walk_at "ev") => `(tactic| repeat' (first | exact ev_c | exact ev_var rfl | exact rv_I0 | refine' rv_I ?_ | refine' rv_eq ?_ | refine' rv_ne ?_ | refine' ev_op ?_ ?_ ?_ | exact ea_nil | refine' ea_cons ?_ ?_ | refine' et_test ?_ | refine' et_B ?_ | refine' et_not ?_ | refine' ev_notV ?_))

open PySem
/-! ### BadMode is raised -/
def spBadI (a : Ads) : Sp := fun vs H Q _ => ∃ (e : Addr) (v : V), vs = [.ref e, v] ∧ H e = some (exo e a.x_BadMode none) ∧ ∀ dx, H dx = none → dx ≠ e → Q .non (upd (upd H dx (exd dx [(("part" : Str), v)])) e (exo e a.x_BadMode (some dx)))
/-- an error's dict, new: its part is s -/
def Told (a : Ads) (E : XK) (H : Hp) (s : Str) : Prop := ∀ d H', H d = none → Ex H H' → H' d = some (.xd [(("part" : Str), .str s)]) → E (.ref a.x_BadMode) (some d) H'
theorem Told.back {a : Ads} {E : XK} {H H1 : Hp} {s : Str} (h : Told a E H s) (e : Ex H H1) : Told a E H1 s := fun d H' hd e' h' => h d H' (fresh_back e hd) (e.trans e') h'
/-- what raise BadMode(s) asks, and what it leaves -/
theorem raise_told {a : Ads} {E : XK} {H : Hp} {s : Str} (h : Told a E H s) : ∀ e, H e = none → spBadI a (.ref e :: ([.str s] ++ [])) (upd H e (exo e a.x_BadMode none)) (fun v H2 => v = .non ∧ ∃ (d : Addr) (fs : List (Str × V)), H2 e = some (exo e a.x_BadMode (some d)) ∧ H2 d = some (exd d fs) ∧ H d = none ∧ E (.ref a.x_BadMode) (some d) (upd (del H2 e) d (.xd fs))) (fun _ _ _ => False) := fun e he =>
  ⟨e, .str s, rfl, upd_same, fun dx hdx ne => by
    have hd : H dx = none := by rw [upd_ne ne] at hdx; exact hdx
    refine ⟨rfl, dx, [(("part" : Str), .str s)], upd_same, by rw [upd_ne ne, upd_same], hd, h dx _ hd (fun b o hb => ?_) upd_same⟩
    have be := ne_of_none hb he
    have bd := ne_of_none hb hd
    rw [upd_ne bd, del_ne be, upd_ne be, upd_ne bd, upd_ne be]
    exact hb⟩
section
variable {P : Program} {w : World} {K : PySem.W.Frag} {mg : Str → Option Value} {base : Heap} {a : Ads}
theorem ok_BadMode_init (T : Txt w K mg a) : FnOk P w K mg base CX0 1 a.f_BadModeD_initD a.d_BadModeD_initD ["self", "part"] (spBadI a) := by
  refine T.fn_BadModeD_initD.ok sc_BadModeD_initD (fun vs H Q E h => ?_) (fun cdv A outer s H vs Q E hr h => ?_)
  · obtain ⟨_, _, rfl, _⟩ := h
    rfl
  · obtain ⟨e, v, rfl, he, k⟩ := h
    refine ⟨_, (pss_one (ps_ost (pv 0) (pv 1))), ?_⟩
    exact ⟨v, rfl, .ref e, rfl, e, a.x_BadMode, rfl, T.ox_BadMode, T.np_BadMode, .inl ⟨he, fun dx hdx ne => k dx hdx ne⟩⟩
end
end KC
set_option Elab.async false
set_option linter.all false
set_option maxRecDepth 100000
set_option maxHeartbeats 4000000
namespace KC
open PySem PySem.Spec PyProof.Rows L2 Evl
local macro_rules | `(tactic| walk_at "ev") => `(tactic| repeat' (first | exact ev_c | exact ev_var rfl | exact rv_I0 | refine' rv_I ?_ | refine' rv_eq ?_ | refine' rv_ne ?_ | refine' ev_op ?_ ?_ ?_ | exact ea_nil | refine' ea_cons ?_ ?_ | refine' et_test ?_ | refine' et_B ?_ | refine' et_not ?_ | refine' ev_notV ?_))

open PySem
theorem FnOk.either {P : Program} {w : World} {K : PySem.W.Frag} {mg : Str → Option Value} {base : Heap} {CX : CXT} {k : Nat} {f : Addr} {fd : FuncData} {ps : List Str} {s1 s2 : Sp} (F1 : FnOk P w K mg base CX k f fd ps s1) (F2 : FnOk P w K mg base CX k f fd ps s2) : FnOk P w K mg base CX k f fd ps (fun vs H Q E => s1 vs H Q E ∨ s2 vs H Q E) :=
  ⟨fun vs H Q E h => h.elim (F1.len vs H Q E) (F2.len vs H Q E), fun A outer s H args us vs Q E hr e0 hb r h => h.elim (F1.run A outer s H args us vs Q E hr e0 hb r) (F2.run A outer s H args us vs Q E hr e0 hb r)⟩
/-- a value of this type, now and later -/
def TyE (K : PySem.W.Frag) (H : Hp) (x : V) (t : String) : Prop := ∀ H', Ex H H' → TyX K H' x (.type t)
/-- no whole number from 0 to m -/
def BadW (K : PySem.W.Frag) (H : Hp) (x : V) (m : Int) : Prop := (∃ (t : String) (b1 b2 : Bool), TyE K H x t ∧ kitB t "int" = some b1 ∧ kitB t "bool" = some b2 ∧ (b1 && !b2) = false) ∨ ∃ i : Int, x = .int i ∧ (i < 0 ∨ m < i)
theorem BadW.mono {K : PySem.W.Frag} {H H' : Hp} {x : V} {m : Int} (h : BadW K H x m) (e : Ex H H') : BadW K H' x m := by
  rcases h with ⟨t, b1, b2, ty, h1, h2, h3⟩ | h
  · exact .inl ⟨t, b1, b2, fun H1 e1 => ty H1 (e.trans e1), h1, h2, h3⟩
  · exact .inr h
def spW1 (K : PySem.W.Frag) : Sp := fun vs H Q _ => ∃ (x : V) (t : String) (b1 b2 : Bool), vs = [x] ∧ TyE K H x t ∧ kitB t "int" = some b1 ∧ kitB t "bool" = some b2 ∧ ∀ H', Ex H H' → Q (.bl (b1 && !b2)) H'
def spW2 (K : PySem.W.Frag) : Sp := fun vs H Q _ => ∃ (x : V) (m : Int), vs = [x, .int m] ∧ BadW K H x m ∧ ∀ H', Ex H H' → Q (.bl false) H'
def EvM (a : Ads) (te : TE) (σ : L2.St) (H : Hp) (n : Nat) : Prop := ∀ H1, Ex H H1 → ∀ Q : VK, (∀ p H2, H1 p = none → Ex H1 H2 → ModeAt a H2 p n → Q (.ref p) H2) → te σ H1 Q
theorem em_mode {a : Ads} {te : TE} {σ : L2.St} {H : Hp} {n : Nat} {E : XK} (h : Ev te σ H (.int n)) (hn : n < 512) : EvM a (tMake a.f_Mode (spMode a) [] E (tCons te tNil)) σ H n := fun H1 e1 Q q =>
  h H1 e1 _ fun H2 e2 x dx hx hdx hne => ⟨x, dx, n, rfl, hn, upd_same, fun H3 k3 h3 => ⟨rfl, q x H3 (fresh_back e2 hx) (e2.trans fun b o hb => by
    have bx := ne_of_none hb hx
    have bdx := ne_of_none hb hdx
    exact k3 b o (by rw [upd_ne bx, upd_ne bdx]; exact hb) bx) ⟨dx, h3⟩⟩⟩
section
variable {P : Program} {w : World} {K : PySem.W.Frag} {mg : Str → Option Value} {base : Heap} {a : Ads}
theorem ok_is_whole1 (T : Txt w K mg a) : FnOk P w K mg base CX0 1 a.f_is_whole a.d_is_whole ["value"] (spW1 K) := by
  refine T.fn_is_whole.ok sc_is_whole (fun vs H Q E h => ?_) (fun cdv A outer s H vs Q E hr h => ?_)
  · obtain ⟨_, _, _, _, rfl, _⟩ := h
    rfl
  · obtain ⟨x, t, b1, b2, rfl, ty, h1, h2, k⟩ := h
    refine ⟨_, (pss_one (ps_ret (pe_and (pe_callB call_isi (by rfl) T.b_isinstance PyProof.Rows.boot_isinstance (pa_cons (pv 0) (pa_cons (pe_bltn (v := .ty "int") (by rfl) T.b_int (by decide +kernel) rfl) pa_nil))) (pe_one (pe_not (pe_callB call_isi (by rfl) T.b_isinstance PyProof.Rows.boot_isinstance (pa_cons (pv 0) (pa_cons (pe_bltn (v := .ty "bool") (by rfl) T.b_bool (by decide +kernel) rfl) pa_nil)))))))), ?_⟩
    exact s_ret (v := .bl (b1 && !b2)) (ev_andV (a := b1) (ev_isi (ea_cons (ev_var rfl) (ea_cons ev_c ea_nil)) (.ty _) ty (kit_ty h1)) fun _ => ev_notV (a := b2) (ev_isi (ea_cons (ev_var rfl) (ea_cons ev_c ea_nil)) (.ty _) ty (kit_ty h2))) fun H1 e1 => k H1 e1
theorem ok_is_whole2 (T : Txt w K mg a) : FnOk P w K mg base CX0 3 a.f_is_whole_to a.d_is_whole_to ["value", "most"] (spW2 K) := by
  have G_is_whole : FnOk P w K mg base CX0 1 _ _ _ _ := ok_is_whole1 T
  refine T.fn_is_whole_to.ok sc_is_whole_to (fun vs H Q E h => ?_) (fun cdv A outer s H vs Q E hr h => ?_)
  · obtain ⟨_, _, rfl, _⟩ := h
    rfl
  · obtain ⟨x, m, rfl, bad, k⟩ := h
    have hrc : Room 1 _ := hr.mono (by decide)
    refine ⟨_, (pss_one (ps_ret (pe_and (pe_call G_is_whole hrc rfl T.mg_is_whole T.fn_is_whole.kp (bd_is_whole T) .nil pass0 (pa_cons (pv 0) pa_nil)) (pe_one (pe_chain op_le op_le pe_int (pv 0) (pv 1)))))), ?_⟩
    rcases bad with ⟨t, b1, b2, ty, h1, h2, h3⟩ | ⟨i, rfl, hi⟩
    · exact s_ret (v := .bl false) (ev_is (ev_andV (a := false) (b := true) (ev_is (ev_call (vs := [x]) (ea_cons (ev_var rfl) ea_nil) fun H1 e Q q E => ⟨x, t, b1, b2, rfl, fun H2 e2 => ty H2 (e.trans e2), h1, h2, q⟩) (by rw [h3])) (fun z => nomatch z)) rfl) fun H1 e1 => k H1 e1
    · refine s_ret (v := .bl false) (ev_is (ev_andV (a := true) (ev_call (vs := [.int i]) (ea_cons (ev_var rfl) ea_nil) fun H1 e Q q E => ⟨.int i, "int", true, false, rfl, fun _ _ => .base (.int _), by decide +kernel, by decide +kernel, q⟩) fun _ => ev_chain ev_c (ev_var rfl) rv_I0 fun _ => ⟨ev_var rfl, rv_I0⟩) ?_) fun H1 e1 => k H1 e1
      by_cases h0 : 0 ≤ i
      · rw [decide_eq_false (show ¬ i ≤ m by omega)]
        simp
      · rw [decide_eq_false h0]
        rfl
end
end KC
set_option Elab.async false
set_option linter.all false
set_option maxRecDepth 100000
set_option maxHeartbeats 4000000
namespace KC
open PySem PySem.Spec PyProof.Rows L2 Evl
local macro_rules | `(tactic| walk_at "ev") => `(tactic| repeat' (first | exact ev_c | exact ev_var rfl | exact rv_I0 | refine' rv_I ?_ | refine' rv_eq ?_ | refine' rv_ne ?_ | refine' ev_op ?_ ?_ ?_ | exact ea_nil | refine' ea_cons ?_ ?_ | refine' et_test ?_ | refine' et_B ?_ | refine' et_not ?_ | refine' ev_notV ?_))

open PySem
/-! ### the caught error: isinstance, its field -/
def rIsD (K : PySem.W.Frag) (D a : Addr) (cls : Value) (d : Option Addr) : List V → Hp → VK → Prop := fun xs H Q => ∃ (c : V) (cv : Value) (b : Bool) (dd : Addr) (fs : List (Str × V)), xs = [.ref a, c] ∧ (∀ u, RelV c u → u = cv) ∧ cls = .ref D ∧ d = some dd ∧ H dd = some (.xd fs) ∧ PySem.W.kitOne K (.ref D) cv = some b ∧ Q (.bl b) H
def tPartE (D a : Addr) (cls : Value) (d : Option Addr) (te : TE) : TE := fun σ H Q => te σ H fun x H1 => x = .ref a ∧ cls = .ref D ∧ ∃ (dd : Addr) (v : V), d = some dd ∧ H1 dd = some (.xd [(("part" : Str), v)]) ∧ Q v H1
section
variable {X : Cx} {a D dd : Addr} {oe : Obj} {cls : Value} {d : Option Addr} {pn pins : List (Addr × Obj)} {σ : L2.St} {H : Hp} {s : Shared} {e : Expr} {te : TE} {pos : Pos} {fs : List (Str × V)}
theorem inst_xd (I : Inv (X.suite a ((a, oe) :: pn)) pins σ H s) (hz : Zc (.ref D) (some dd) oe) (hf : ∃ vs, oe.data = .fields vs) (hd : H dd = some (.xd fs)) : ∃ od, PySem.W.InstAt s.heap a oe D (some od) ∧ s.heap.get? dd = some od := by
  obtain ⟨hget, _⟩ := I.pin (a, oe) (List.mem_append_left _ List.mem_cons_self)
  obtain ⟨vs, hv⟩ := hf
  have hx : ObjOk X.prog X.w H s.heap dd (.xd fs) := I.hok dd _ hd
  obtain ⟨mA, hns, _⟩ := hx
  obtain ⟨od, ho, _⟩ := lookIn_ns hns
  exact ⟨od, ⟨hget, hz.1, by unfold PySem.W.notCls; rw [hv] <;> rfl, by rw [hz.2]; exact ho⟩, ho⟩
theorem call_isD (C : ExcC X.K D) (hcl : (PySem.W.clsIn X.K D).isSome = true) (hz : Zc cls d oe) (hf : ∃ vs, oe.data = .fields vs) : CallR (X.suite a ((a, oe) :: pn)) (.builtin "isinstance") (rIsD X.K D a cls d) := by
  intro pins s σ H xs us Q I r h
  obtain ⟨c, cv, b, dd, fs, rfl, hcv, rfl, rfl, hd, e, q⟩ := h
  cases r with
  | cons rx rr =>
    cases rr with
    | cons rt rr =>
      cases rr
      cases rx
      have ec := hcv _ rt
      subst ec
      obtain ⟨od, J, _⟩ := inst_xd I hz hf hd
      exact PySem.W.kia_one (PySem.W.kitx_exc hcl C.hg C.hk C.hs C.ha C.hn C.ht C.hm) I.kIn J e (fun z => nomatch z) fun tk => ⟨.bl b, H, I.kept (t' := tk) fun _ _ z => z, rfl, q⟩
theorem pe_part (C : ExcC X.K D) (no : PySem.W.findIn X.K (.ref D) "part" = some none) (hz : Zc cls d oe) (hf : ∃ vs, oe.data = .fields vs) (he : PE (X.suite a ((a, oe) :: pn)) e te) (hb : attributeBase e "part" X.env (eval e X.env) = eval e X.env := by rfl) :
    PE (X.suite a ((a, oe) :: pn)) (.Attribute e "part" pos) (tPartE D a cls d te) where
  run := fun pins s σ H Q I h => by
    refine attr_of hb (thn (he.run pins s σ H _ I h) fun u s1 hh => ?_)
    obtain ⟨x, H1, I1, rx, rfl, rfl, dd, v, rfl, ea, q⟩ := hh
    obtain rfl : u = Value.ref a := rx
    obtain ⟨hget, _⟩ := I1.pin (a, oe) (List.mem_append_left _ List.mem_cons_self)
    obtain ⟨vs, hv⟩ := hf
    have hx : ObjOk X.prog X.w H1 s1.heap dd (.xd [(("part" : Str), v)]) := I1.hok dd _ ea
    obtain ⟨mA, hns, rel⟩ := hx
    obtain ⟨od, ho, looks⟩ := lookIn_ns hns
    have l : List.lookup ("part" : Str) [(("part" : Str), v)] = some v := by simp [List.lookup]
    obtain ⟨w', hw, rw'⟩ := RelO.some_of (v := v) (o := mA "part") (by rw [← l]; exact rel "part")
    have J : PySem.W.InstAt s1.heap a oe D (some od) := ⟨hget, hz.1, by unfold PySem.W.notCls; rw [hv] <;> rfl, by rw [hz.2]; exact ho⟩
    exact HandSPX.exc_get I1.kIn J C.hg C.hk C.hs (PySem.W.findObj_own C.hd no rfl (by rw [looks, hw])) (handed_of rw') ⟨v, H1, I1.tok _, rw', q⟩
end
end KC
set_option Elab.async false
set_option linter.all false
set_option maxRecDepth 100000
set_option maxHeartbeats 4000000
namespace KC
open PySem PySem.Spec PyProof.Rows L2 Evl
local macro_rules | `(tactic| walk_at "ev") => `(tactic| repeat' (first | exact ev_c | exact ev_var rfl | exact rv_I0 | refine' rv_I ?_ | refine' rv_eq ?_ | refine' rv_ne ?_ | refine' ev_op ?_ ?_ ?_ | exact ea_nil | refine' ea_cons ?_ ?_ | refine' et_test ?_ | refine' et_B ?_ | refine' et_not ?_ | refine' ev_notV ?_))

open PySem LamX
theorem Takes.len {X : Cx} {W : WX} (t : Takes X W) : Takes X (fun c d σ H => σ.length = X.N.length → W c d σ H) := fun u s' ⟨a, B, sI, pins, σ, H, cls, d, e, I, nb, up, sky, na, os, ag, w⟩ => t u s' ⟨a, B, sI, pins, σ, H, cls, d, e, I, nb, up, sky, na, os, ag, w I.len⟩
theorem op_neE {X : Cx} {K : PySem.W.Frag} (h : X.K = K) (hu : X.A.units + 64 < cLine) : OpR X (compareOp .NotEq) (rNeD K) := by
  subst h
  exact op_neD hu
theorem cl_of {K : PySem.W.Frag} {D : Addr} (C : ExcC K D) : (PySem.W.clsIn K D).isSome = true := by
  obtain ⟨cd, hc, _⟩ := PySem.W.any_some C.hd
  rw [hc]
  rfl
section
variable {K : PySem.W.Frag} {σ : L2.St} {H : Hp} {te : TE} {D a0 dd : Addr} {cls cv : Value} {d : Option Addr} {c : V} {b : Bool} {s : Str} {fs : List (Str × V)}
theorem ev_isD (hv : σ[1]? = some (some (.ref a0))) (hc : Ev te σ H c) (rel : ∀ u, RelV c u → u = cv) (h1 : cls = .ref D) (h2 : d = some dd) (hx : H dd = some (.xd fs)) (e : PySem.W.kitOne K (.ref D) cv = some b) : Ev (tCB (rIsD K D a0 cls d) (tCons (tVar 1) (tCons te tNil))) σ H (.bl b) := fun H1 e1 Q q =>
  ⟨.ref a0, hv, hc H1 e1 _ fun H2 e2 => ⟨c, cv, b, dd, fs, rfl, rel, h1, h2, e2 _ _ (e1 _ _ hx), e, q H2 e2⟩⟩
theorem ev_partD (hv : σ[1]? = some (some (.ref a0))) (h1 : cls = .ref D) (h2 : d = some dd) (hx : H dd = some (.xd [(("part" : Str), .str s)])) : Ev (tPartE D a0 cls d (tVar 1)) σ H (.str s) := fun H1 e1 Q q =>
  ⟨.ref a0, hv, rfl, h1, dd, .str s, h2, e1 _ _ hx, q H1 (Ex.refl H1)⟩
theorem rv_neMarks {p q : Addr} (h1 : H p = some (.lst [.bl true, .bl false, .bl true])) (h2 : H q = some (.lst [.bl true, .bl false, .bl true])) : RV (rNeD K) (.ref p) (.ref q) H (.bl false) := fun H1 e Q k =>
  ⟨.list [.bool true, .bool false, .bool true], .list [.bool true, .bool false, .bool true], .lst (sq_of (e _ _ h1)) (.cons (.bl _) (.cons (.bl _) (.cons (.bl _) .nil))), .lst (sq_of (e _ _ h2)) (.cons (.bl _) (.cons (.bl _) (.cons (.bl _) .nil))), by decide +kernel, by decide +kernel, by
    rw [show PyData.eqv (.list [.bool true, .bool false, .bool true]) (.list [.bool true, .bool false, .bool true]) = true by decide +kernel]
    exact k H1 (Ex.refl H1)⟩
end
/-- what the answer is of what is asked: a BadMode with the part s -/
def HeardX (a : Ads) (Q : VK) : XK := fun cls d H' => cls = .ref a.x_BadMode ∧ ∃ (dd : Addr) (s : Str), d = some dd ∧ H' dd = some (.xd [(("part" : Str), .str s)]) ∧ ∀ t H'', H' t = none → Ex H' H'' → H'' t = some (.tup [.str "mode", .str s]) → Q (.ref t) H''
def THeard (a : Ads) : (XK → Hp → VK → Prop) → Hp → VK → Prop := fun tl H Q => tl (HeardX a Q) H fun x H1 => [V.str "told", x].length ≤ sizeLine ∧ ∀ p, H1 p = none → Q (.ref p) (upd H1 p (.tup [.str "told", x]))
theorem heard_gives {X : Cx} {a : Ads} {q : Str} {cdv : Value} (T : Txt X.w X.K X.mg a) (hu : X.A.units + 100 < cLine) : GivesTo X n__law_heard "_law_heard" (defScope s__law_heard) a.f__law_heard cdv (defBody s__law_heard) "_law_ask" q (THeard a) := by
  intro f c' s H Q tl act hc h
  refine ⟨_, pss_cons (ps_try_as (X := (cxOf C8.CX0 X.prog X.w X.K X.mg X.base n__law_heard "_law_heard" (defScope s__law_heard) a.f__law_heard cdv X.A X.stack s H C8.E0).nox) (c := .ref a.x_ModesError) (i := 1)
      (tb := fun W D σ H => ∃ Ech : XK, (∀ cls d σ' H', Ech cls d H' → σ'.length = 3 → W cls d σ' H') ∧ σ[0]? = some (some (.ref f)) ∧ H c' = some (CodeO c' q) ∧ tl Ech H fun x H1 => [V.str "told", x].length ≤ sizeLine ∧ ∀ p, H1 p = none → D.rt (.ref p) (upd H1 p (.tup [.str "told", x])))
      rfl rfl sc__law_heard.nd rfl rfl ⟨rfl, by decide, .inl T.mg_ModesError⟩ L2.takes0 (fun W pn xe tk _ => ?body) (fun a0 oe cls d pn hz hf => (pss_cons (ps_set (i := 2) sc__law_heard.nd rfl (Or.inl rfl) (pe_lst (pa_cons (pe_callB (call_isD T.ec_BadMode (cl_of T.ec_BadMode) hz hf) (by rfl) T.b_isinstance PyProof.Rows.boot_isinstance (pa_cons (pv 1) (pa_cons (pe_glob (v := .ref a.x_BadInput) rfl T.mg_BadInput rfl) pa_nil))) (pa_cons (pe_callB (call_isD T.ec_BadMode (cl_of T.ec_BadMode) hz hf) (by rfl) T.b_isinstance PyProof.Rows.boot_isinstance (pa_cons (pv 1) (pa_cons (pe_glob (v := .ref a.x_NoWay) rfl T.mg_NoWay rfl) pa_nil))) (pa_cons (pe_callB (call_isD T.ec_BadMode (cl_of T.ec_BadMode) hz hf) (by rfl) T.b_isinstance PyProof.Rows.boot_isinstance (pa_cons (pv 1) (pa_cons (pe_bltn (v := .ty "ValueError") (by rfl) T.b_ValueError PyProof.Rows.Boot.«ValueError» rfl) pa_nil))) pa_nil)))))
    (pss_cons (ps_if (pt_cmpR (op_neE (K := X.K) rfl (by show X.A.units + 3 + 64 < cLine; omega)) (pv 2) (pe_lst (pa_cons pe_bl (pa_cons pe_bl (pa_cons pe_bl pa_nil)))) (nomark _)) (pss_one (ps_ret (pe_tup (pa_cons pe_str pa_nil)))) pss_nil)
    (pss_cons (ps_if (PW.pt (pw_and (pt_val (pe_callB (call_isD T.ec_BadMode (cl_of T.ec_BadMode) hz hf) (by rfl) T.b_isinstance PyProof.Rows.boot_isinstance (pa_cons (pv 1) (pa_cons (pe_glob (v := .ref a.x_BadMode) rfl T.mg_BadMode rfl) pa_nil)))) (pw_and1 (pt_not (pt_val (pe_callB (call_isD T.ec_BadMode (cl_of T.ec_BadMode) hz hf) (by rfl) T.b_isinstance PyProof.Rows.boot_isinstance (pa_cons (pv 1) (pa_cons (pe_glob (v := .ref a.x_BadText) rfl T.mg_BadText rfl) pa_nil)))))))) (pss_one (ps_ret (pe_tup (pa_cons pe_str (pa_cons (pe_part T.ec_BadMode T.np_BadMode hz hf (pv 1)) pa_nil))))) pss_nil)
    (pss_one ps_never)))))) (pss_one (ps_ret (pe_tup (pa_cons pe_str pa_nil)))), ?reading⟩
  case body =>
    refine ⟨fun pins s' σ H' D I h' => ?_⟩
    obtain ⟨Ech, hW, h1, h2, h3⟩ := h'
    exact (pss_one (ps_ret (pe_tup (pa_cons pe_str (pa_cons (act _ pn xe Ech _ _ (Takes.len tk) (fun cls d σ' H' e => hW cls d σ' H' e)) pa_nil))))).run pins s' σ H' D I ⟨h1, h2, h3⟩
  case reading =>
    refine ⟨HeardX a Q, fun cls d σ' H' hx len => ?_, rfl, hc, h⟩
    obtain ⟨hcls, dd, s, hd, hxd, kk⟩ := hx
    refine ⟨true, by rw [hcls]; exact T.em_BadMode, fun _ a0 ha0 => ?_, fun z => nomatch z⟩
    match σ', len with
    | [x, y, z], _ =>
      refine q_asgL (xs := [.bl true, .bl false, .bl true]) (el_lst (ea_cons (ev_isD (K := X.K) rfl ev_c (fun u r => r) hcls hd hxd T.ks_BadInput) (ea_cons (ev_isD (K := X.K) rfl ev_c (fun u r => r) hcls hd hxd T.ks_NoWay) (ea_cons (ev_isD (K := X.K) rfl ev_c (fun u r => r) hcls hd hxd T.ks_ValueError) ea_nil))) (by show 3 ≤ 100000; decide)) fun m H1 _ e1 h1 => ?_
      refine q_when (b := false) (et_test (ev_opL (ev_var rfl) (el_lst (ea_cons ev_c (ea_cons ev_c (ea_cons ev_c ea_nil))) (by show 3 ≤ 100000; decide)) fun p H2 hp e2 => rv_neMarks (K := X.K) (e2 _ _ h1) hp)) (fun z => nomatch z) fun _ H2 e2 => ?_
      have hx2 := (e1.trans e2) _ _ hxd
      refine q_when (b := true) (et_and (a := true) (b := true) (et_B (ev_isD (K := X.K) rfl ev_c (fun u r => r) hcls hd hx2 T.ks_BadMode)) fun _ => et_is (et_not (a := false) (et_B (ev_isD (K := X.K) rfl ev_c (fun u r => r) hcls hd hx2 T.ks_BadText))) rfl) (fun _ H3 e3 => ?_) (fun z => nomatch z)
      exact s_retU (xs := [.str "mode", .str s]) (eu_tup (ea_cons ev_c (ea_cons (ev_partD rfl hcls hd (e3 _ _ hx2)) ea_nil)) (by show 2 ≤ 100000; decide)) fun t H4 ht e4 h4 => kk t H4 (fresh_back ((e1.trans e2).trans e3) ht) (((e1.trans e2).trans e3).trans e4) h4
end KC
set_option Elab.async false
set_option linter.all false
set_option maxRecDepth 100000
set_option maxHeartbeats 4000000
namespace KC
open PySem PySem.Spec PyProof.Rows L2 Evl
local macro_rules | `(tactic| walk_at "ev") => `(tactic| repeat' (first | exact ev_c | exact ev_var rfl | exact rv_I0 | refine' rv_I ?_ | refine' rv_eq ?_ | refine' rv_ne ?_ | refine' ev_op ?_ ?_ ?_ | exact ea_nil | refine' ea_cons ?_ ?_ | refine' et_test ?_ | refine' et_B ?_ | refine' et_not ?_ | refine' ev_notV ?_))

open PySem LamX
/-! ### what stays when objects are drawn from, and when a lambda is made -/
/-- all stays but dicts and tables -/
def Sd (H H' : Hp) : Prop := ∀ b o, H b = some o → (∀ ps, o ≠ .tbl ps) → (∀ kvs, o ≠ .dK kvs) → H' b = some o
theorem Sd.of {H H' : Hp} (e : Ex H H') : Sd H H' := fun b o h _ _ => e b o h
theorem Sd.ofN {H H' : Hp} (e : ExtN H H') : Sd H H' := fun b o h n _ => e b o h n
theorem Sd.ofB {H H' : Hp} {p : Addr} (hb : BagAt H p) (e : ExB p H H') : Sd H H' := fun b o h _ n => e b o h fun q => by
  obtain ⟨l, ns, at_, r, s, h1, _⟩ := hb
  rw [q, h1] at h
  cases h
  exact n _ rfl
theorem Sd.trans {H H1 H2 : Hp} (a : Sd H H1) (b : Sd H1 H2) : Sd H H2 := fun c o h n m => b c o (a c o h n m) n m
theorem ModeAt.sd {a : Ads} {H H' : Hp} {p : Addr} {n : Nat} (m : ModeAt a H p n) (e : Sd H H') : ModeAt a H' p n := by
  obtain ⟨dx, h⟩ := m
  exact ⟨dx, e _ _ h (fun _ z => nomatch z) (fun _ z => nomatch z)⟩
theorem BagAt.keepN {H H' : Hp} {p : Addr} (h : BagAt H p) (e : ExtN H H') : BagAt H' p := by
  obtain ⟨l, ns, at_, rest, state, h1, h2, h3⟩ := h
  exact ⟨l, ns, at_, rest, state, e _ _ h1 (fun _ z => nomatch z), e _ _ h2 (fun _ z => nomatch z), h3⟩
theorem tabs_exB {T : List (Addr × Str)} {H H' : Hp} {p : Addr} (t : Tabs T H) (hb : BagAt H p) (e : ExB p H H') : Tabs T H' := fun q hq => by
  obtain ⟨ps, h1, tr, h2⟩ := t q hq
  obtain ⟨l, ns, at_, r, s, hd, _⟩ := hb
  refine ⟨ps, e _ _ h1 (ne_of h1 hd fun z => nomatch z), tr, fun pos cv hc => ?_⟩
  obtain ⟨c, e1, e2⟩ := h2 pos cv hc
  exact ⟨c, e1, e _ _ e2 (ne_of e2 hd fun z => nomatch z)⟩
theorem tabs_keep {T : List (Addr × Str)} {H H' : Hp} (t : Tabs T H) (e : Ex H H') : Tabs T H' := LamX.Tabs.ext t e
/-! ### odd values -/
inductive KindV (H : Hp) : V → String → Prop
  | non : KindV H .non "NoneType"
  | int (i : Int) : KindV H (.int i) "int"
  | bl (b : Bool) : KindV H (.bl b) "bool"
  | str (s : Str) : KindV H (.str s) "str"
  | tup {p : Addr} {xs : List V} (h : H p = some (.tup xs)) : KindV H (.ref p) "tuple"
  | lst {p : Addr} {xs : List V} (h : H p = some (.lst xs)) : KindV H (.ref p) "list"
theorem KindV.sd {H H' : Hp} {x : V} {t : String} (h : KindV H x t) (e : Sd H H') : KindV H' x t := by
  cases h with
  | non => exact .non
  | int i => exact .int i
  | bl b => exact .bl b
  | str s => exact .str s
  | tup h => exact .tup (e _ _ h (fun _ z => nomatch z) (fun _ z => nomatch z))
  | lst h => exact .lst (e _ _ h (fun _ z => nomatch z) (fun _ z => nomatch z))
theorem KindV.ty {K : PySem.W.Frag} {H : Hp} {x : V} {t : String} (h : KindV H x t) : TyX K H x (.type t) := by
  cases h with
  | non => exact .base .non
  | int i => exact .base (.int i)
  | bl b => exact .base (.bl b)
  | str s => exact .base (.str s)
  | tup h => exact .base (.tup h)
  | lst h => exact .base (.lst h)
def BadV (H : Hp) (x : V) (m : Int) : Prop := (∃ (t : String) (b1 b2 : Bool), KindV H x t ∧ kitB t "int" = some b1 ∧ kitB t "bool" = some b2 ∧ (b1 && !b2) = false) ∨ ∃ i : Int, x = .int i ∧ (i < 0 ∨ m < i)
theorem BadV.sd {H H' : Hp} {x : V} {m : Int} (h : BadV H x m) (e : Sd H H') : BadV H' x m := h.imp (fun ⟨t, b1, b2, k, r⟩ => ⟨t, b1, b2, k.sd e, r⟩) id
theorem BadV.bad {K : PySem.W.Frag} {H : Hp} {x : V} {m : Int} (h : BadV H x m) : BadW K H x m := h.imp (fun ⟨t, b1, b2, k, r⟩ => ⟨t, b1, b2, fun _ e => (k.sd (Sd.of e)).ty, r⟩) id
theorem kb_non : kitB "NoneType" "int" = some false ∧ kitB "NoneType" "bool" = some false := by decide +kernel
theorem kb_bl : kitB "bool" "int" = some true ∧ kitB "bool" "bool" = some true := by decide +kernel
theorem kb_str : kitB "str" "int" = some false ∧ kitB "str" "bool" = some false := by decide +kernel
theorem kb_tup : kitB "tuple" "int" = some false ∧ kitB "tuple" "bool" = some false := by decide +kernel
theorem kb_lst : kitB "list" "int" = some false ∧ kitB "list" "bool" = some false := by decide +kernel
theorem bag_app {H : Hp} {p l h : Addr} {xs ys : List V} (b : BagAt H p) (hl : H l = some (.lst (.ref h :: xs))) : BagAt (upd H l (.lst ys)) p := by
  obtain ⟨c, ns, at_, rest, state, h1, h2, h3⟩ := b
  have n1 : p ≠ l := ne_of h1 hl fun z => nomatch z
  have n2 : c ≠ l := fun q => by
    rw [q, hl] at h2
    injection h2 with h2
    injection h2 with h2
    match ns, h2 with
    | [], h2 => cases h2
    | _ :: _, h2 => cases h2
  exact ⟨c, ns, at_, rest, state, by rw [upd_ne n1]; exact h1, by rw [upd_ne n2]; exact h2, h3⟩
theorem tab_app {H : Hp} {T : List (Addr × Str)} {l : Addr} {xs ys : List V} (t : Tabs T H) (hl : H l = some (.lst xs)) : Tabs T (upd H l (.lst ys)) := fun q hq => by
  obtain ⟨ps, h1, tr, h2⟩ := t q hq
  refine ⟨ps, by rw [upd_ne (ne_of h1 hl fun z => nomatch z)]; exact h1, tr, fun pos cv hc => ?_⟩
  obtain ⟨c, e1, e2⟩ := h2 pos cv hc
  exact ⟨c, e1, by rw [upd_ne (ne_of e2 hl fun z => nomatch z)]; exact e2⟩
/-- a draw -/
theorem draw_is {σ : L2.St} {H : Hp} {E : XK} {p : Addr} {i : Nat} {Q : VK} (m : Nat) (hi : σ[i]? = some (some (.ref p))) (hb : BagAt H p) (h0 : 0 < m) (h1 : m ≤ 1000) (k : ∀ d H', d < m → ExB p H H' → BagAt H' p → Q (.int (d : Nat)) H') : tCall spDraw [] E (tCons (tVar i) (tCons (tC (.int (m : Nat))) tNil)) σ H Q :=
  ⟨.ref p, hi, p, m, rfl, hb, h0, h1, fun d H' hd e b => k d H' hd e b⟩
end KC
set_option Elab.async false
set_option linter.all false
set_option maxRecDepth 100000
set_option maxHeartbeats 4000000
namespace KC
open PySem PySem.Spec PyProof.Rows L2 Evl
local macro_rules | `(tactic| walk_at "ev") => `(tactic| repeat' (first | exact ev_c | exact ev_var rfl | exact rv_I0 | refine' rv_I ?_ | refine' rv_eq ?_ | refine' rv_ne ?_ | refine' ev_op ?_ ?_ ?_ | exact ea_nil | refine' ea_cons ?_ ?_ | refine' et_test ?_ | refine' et_B ?_ | refine' et_not ?_ | refine' ev_notV ?_))

open PySem
/-! a text and a tuple, side by side -/
theorem five {p : Addr → Prop} {c1 c2 c3 c4 c5 : Addr} (a1 : p c1) (a2 : p c2) (a3 : p c3) (a4 : p c4) (a5 : p c5) : ∀ c ∈ [c1, c2, c3, c4, c5], p c :=
  List.forall_mem_cons.mpr ⟨a1, List.forall_mem_cons.mpr ⟨a2, List.forall_mem_cons.mpr ⟨a3, List.forall_mem_cons.mpr ⟨a4, List.forall_mem_cons.mpr ⟨a5, List.forall_mem_nil _⟩⟩⟩⟩⟩
theorem off5 {c c1 c2 c3 c4 c5 : Addr} (h : c ∉ [c1, c2, c3, c4, c5]) : c ≠ c1 ∧ c ≠ c3 ∧ c ≠ c4 ∧ c ≠ c5 := by
  simp only [List.mem_cons, List.not_mem_nil, or_false, not_or] at h
  exact ⟨h.1, h.2.2.1, h.2.2.2⟩
/-- where the two iterators, their pair and the zip stand, i turns on -/
structure SideAt (x : Str) (t : Tok) (b z TI TO i1 i2 : Addr) (i : Nat) (h : Heap) : Prop where
  zip : IsZip h z TI TO .none
  its : IsTupOf2 h TI (.ref i1) (.ref i2)
  out : ∃ v1 v2, IsTupOf2 h TO v1 v2
  txt : h.IsStrIter i1 (strIterType x) x t i
  tup : h.IsTupleIter i2 b i
section
variable {x : Str} {t : Tok} {b z TI TO i1 i2 : Addr} {i : Nat} {h h' : Heap}
theorem SideAt.obj (q : SideAt x t b z TI TO i1 i2 i h) : ∀ c ∈ [z, TI, TO, i1, i2], ∃ o, h.get? c = some o ∧ ∀ v, o.data ≠ .cell v := by
  obtain ⟨v1, v2, ho⟩ := q.out
  obtain ⟨p1, g1, _, n1⟩ := q.txt
  obtain ⟨p2, g2, _, n2⟩ := q.tup
  exact five ⟨_, q.zip, nofun⟩ ⟨_, q.its, nofun⟩ ⟨_, ho, nofun⟩ ⟨p1, g1, by rw [n1]; exact nofun⟩ ⟨p2, g2, by rw [n2]; exact nofun⟩
theorem SideAt.lt (q : SideAt x t b z TI TO i1 i2 i h) : ∀ c ∈ [z, TI, TO, i1, i2], c < h.objs.size := fun c m => let ⟨_, e, _⟩ := q.obj c m; Heap.lt_size e
theorem SideAt.keep (q : SideAt x t b z TI TO i1 i2 i h) (k : ∀ c ∈ [z, TI, TO, i1, i2], ∀ o, h.get? c = some o → h'.get? c = some o) : SideAt x t b z TI TO i1 i2 i h' := by
  obtain ⟨v1, v2, ho⟩ := q.out
  obtain ⟨p1, g1, n1⟩ := q.txt
  refine ⟨k z ?_ _ q.zip, k TI ?_ _ q.its, ⟨v1, v2, k TO ?_ _ ho⟩, ⟨p1, k i1 ?_ _ g1, n1⟩, q.tup.at fun o e => k i2 ?_ o e⟩ <;> simp
end
/-- what a walk over both gives: pairs of a sign and an item -/
def ItzS (K : PySem.W.Frag) (x : Str) (b : Addr) : It :=
  ⟨fun i H => ∃ (ys : List V) (c : Nat) (y : V), SqT K H b ys ∧ x.cps[i]? = some c ∧ ys[i]? = some y,
    fun i H v H' => ∃ (T : Addr) (c : Nat) (y : V), v = .ref T ∧ H T = none ∧ H' = upd H T (.tup [.str ⟨#[c]⟩, y]) ∧ x.cps[i]? = some c ∧ ∀ ys, SqT K H b ys → ys[i]? = some y,
    fun i H => ∃ ys : List V, SqT K H b ys ∧ ys.length = x.cps.size ∧ i = ys.length⟩
theorem turn_zipS {P : Program} {w : World} {K : PySem.W.Frag} {elts : List Expr} {kk : Nat} {tpos : Pos} {x : Str} {t : Tok} {b z TI TO i1 i2 : Addr} (S : ZipSep2 z TI TO i1 i2 [i1] [i2, b]) (hb : b ≠ i2) :
    Turn P w K (.Tuple elts kk tpos) (ItzS K x b) [z, TI, TO, i1, i2] z (SideAt x t b z TI TO i1 i2) where
  mem := List.mem_cons_self ..
  obj := fun _ _ q => q.obj
  keep := fun _ _ _ q k => q.keep k
  self := fun _ _ _ _ _ q k => wpAny_pyIter_zip q.zip k
  item := by
    intro X e1 e2 e3 calm i pins s σ H E I free st more
    subst e1 e2 e3
    obtain ⟨ys, c, y, seq, hx, hy⟩ := more
    obtain ⟨us, ru, isT, _⟩ := I.tuple seq
    obtain ⟨u, hu, ry⟩ := ru.get hy
    have quiet : X.A.in1.handled = none := I.ok.hd calm
    have in1 : i < x.cps.size := (Array.getElem?_eq_some_iff.mp hx).1
    have in2 : i < us.toArray.size := by simpa using (List.getElem?_eq_some_iff.mp hu).1
    obtain ⟨v1, v2, out⟩ := st.out
    refine wpAny_pyNext_zipD2_item S (Draws.text quiet i1 x t) (Draws.tuple quiet i2 b hb us.toArray) st.zip st.its out st.txt ⟨st.tup, isT⟩ in1 in2 fun w1 w2 g tk ⟨c1, t1, hc1, ew⟩ hw2 gz gO g1 g2 gT _ rest => ?_
    subst ew
    obtain rfl : c = c1 := Option.some.inj (hx.symm.trans hc1)
    obtain rfl : u = w2 := Option.some.inj ((show us.toArray[i]? = some u by simpa using hu).symm.trans hw2)
    have zlt := st.lt z (List.mem_cons_self ..)
    refine ⟨_, rfl, wpAny_letOwnedTupleGo_zip (s := { s with heap := g, toks := tk }) gz fun g' gz' but => ?_⟩
    have gT' := (but.2 _ (Nat.ne_of_gt zlt)).trans gT
    have pair : ObjOk X.prog X.w (upd H s.heap.objs.size (.tup [.str ⟨#[c]⟩, y])) g' s.heap.objs.size (.tup [.str ⟨#[c]⟩, y]) := ⟨by show 2 ≤ sizeLine; decide, [.str ⟨#[c]⟩ t1, u], .cons ⟨t1, rfl⟩ (.cons ry .nil), ⟨_, gT', rfl, _, rfl⟩⟩
    have far : ∀ c' o, c' ∉ [z, TI, TO, i1, i2] → s.heap.get? c' = some o → g'.get? c' = some o := fun c' o n e => by
      obtain ⟨n1, n2, n3, n4⟩ := off5 n
      exact (but.2 c' n1).trans (rest c' o n1 n2 n3 n4 e)
    refine ⟨.ref s.heap.objs.size, _, I.turnedNew (t' := tk) (ch := [z, TI, TO, i1, i2]) far free (Nat.le_refl _) pair, rfl, ⟨_, c, y, rfl, I.hok.fresh (Nat.le_refl _), rfl, hx, fun l hl => by rw [I.tuple_inj hl seq]; exact hy⟩, ?_, fun c' m => ?_⟩
    · obtain ⟨p1, q1, r1⟩ := g1
      exact ⟨gz', (but.2 _ S.TIz).trans (rest _ _ S.TIz S.TITO S.TIi1 S.TIi2 st.its), ⟨_, _, (but.2 _ S.TOz).trans gO⟩, ⟨p1, (but.2 _ S.zi1.symm).trans q1, r1⟩, g2.1.at fun o q => (but.2 _ S.zi2.symm).trans q⟩
    · exact (upd_ne (Nat.ne_of_lt (st.lt c' m))).trans (free c' m).1
  done := by
    intro X e1 e2 e3 calm i pins s σ H E I free st over
    subst e1 e2 e3
    obtain ⟨ys, seq, len, rfl⟩ := over
    obtain ⟨us, ru, isT, _⟩ := I.tuple seq
    have quiet : X.A.in1.handled = none := I.ok.hd calm
    have size : us.toArray.size = ys.length := by rw [ru.length]; simp
    obtain ⟨v1, v2, out⟩ := st.out
    exact wpAny_pyNext_zipD2_end S (Draws.text quiet i1 x t) (Draws.tuple quiet i2 b hb us.toArray) st.zip st.its out st.txt ⟨st.tup, isT⟩ (Nat.le_of_eq len) (Nat.le_of_eq size.symm) (.inl len) fun g tk rest => ⟨rfl, I.turnedL (t' := tk) (ch := [z, TI, TO, i1, i2]) (fun c o n e => by
      obtain ⟨n1, n2, n3, n4⟩ := off5 n
      exact rest c o n1 n2 n3 n4 e) free⟩
def iZipS (K : PySem.W.Frag) (ta : TA) : TI := fun σ H R => ta σ H fun vs H1 => ∃ x b ys, vs = [.str x, .ref b] ∧ SqT K H1 b ys ∧ R (ItzS K x b) H1
theorem pi_zipS {X : Cx} {e d : Expr} {ta : TA} {p pos tpos : Pos} {elts : List Expr} {kk : Nat} (hg : Gl X "zip") (hm : X.mg "zip" = none) (ha : PA X [e, d] ta) (flat : starEach [e, d] X.env = (false, eval e X.env) :: starEach [d] X.env := by rfl)
    (plain : (backTo pos (starEach [d] X.env)).any (·.1) = false := by rfl) : PI X (.Tuple elts kk tpos) (.Call (.Name "zip" p) [e, d] [] pos) (iZipS X.K ta) where
  run := fun pins s σ H R I start => by
    refine Call_ (ld_blt I hg hm PyProof.Rows.boot_zip (PyProof.Rows.callWith_type1 (thn (ha.run pos pins s σ H _ I start) fun us s1 ⟨vs, H1, J, r, x, b, ys, ev, seq, go⟩ => ?_) flat plain))
    subst ev
    cases r with | cons q1 q2 => ?_
    cases q2 with | cons q2 q3 => ?_
    cases q3
    obtain ⟨t, rfl⟩ := q1
    cases q2
    obtain ⟨ws, _, isT, _⟩ := J.tuple seq
    have bl : b < s1.heap.objs.size := let ⟨_, ho, _⟩ := id isT; Heap.lt_size ho
    have young : ∀ j, FpOk X pins H1 (s1.heap.objs.size + j) := fun j => J.fpOk (Nat.le_add_right ..) (J.hok.fresh (Nat.le_add_right ..))
    have isT' : s1.heap.IsTuple b ws.toArray := isT
    refine zip_begins2 (begins_text x t) (begins_tuple b ws.toArray) trivial isT' fun g gz gI gO g1 g2 _ rest => wpAny_pyIter_zip gz ?_
    exact ⟨s1.heap.objs.size + 4, _, SideAt x t b (s1.heap.objs.size + 4) (s1.heap.objs.size + 2) (s1.heap.objs.size + 3) s1.heap.objs.size (s1.heap.objs.size + 1), ItzS X.K x b, H1, rfl, J.kept (t' := s1.toks) rest, turn_zipS (t := t) (zip_sep2 nofun fun c m => List.mem_singleton.mp m ▸ bl) (Nat.ne_of_lt (Nat.lt_succ_of_lt bl)), ⟨gz, gI, ⟨_, _, gO⟩, ⟨_, g1, rfl, rfl⟩, ⟨_, g2, rfl, rfl⟩⟩, five (young 4) (young 2) (young 3) (young 0) (young 1), go⟩
end KC

set_option Elab.async false
set_option linter.all false
set_option maxRecDepth 100000
set_option maxHeartbeats 4000000
namespace KC
open PySem PySem.Spec PyProof.Rows L2 Evl
local macro_rules | `(tactic| walk_at "ev") => `(tactic| repeat' (first | exact ev_c | exact ev_var rfl | exact rv_I0 | refine' rv_I ?_ | refine' rv_eq ?_ | refine' rv_ne ?_ | refine' ev_op ?_ ?_ ?_ | exact ea_nil | refine' ea_cons ?_ ?_ | refine' et_test ?_ | refine' et_B ?_ | refine' et_not ?_ | refine' ev_notV ?_))

theorem given_all {n : Nat} {v : Nat → V} : given n (fun _ => true) v = (List.range n).map v := by
  unfold given
  rw [List.filter_eq_self.mpr fun _ _ => rfl]
theorem pe_fldE {X : Cx} {K : PySem.W.Frag} {o : Expr} {f : Str} {apos : Pos} {ta : TE} (ha : PE X o ta) (hb : attributeBase o f X.env (eval o X.env) = eval o X.env) (hK : X.K = K := by rfl) : PE X (.Attribute o f apos) (tFld K ta f) := by
  subst hK
  exact pe_fld ha hb
open PySem
theorem pt_truthE {X : Cx} {K : PySem.W.Frag} {e : Expr} {ta : TE} (ha : PE X e ta) (he : ∀ whole, isTrue e X.env whole = (do let v ← whole; standAt e.pos; holding [v] (truthy v))) (hK : X.K = K := by rfl) :
    PT X e (fun σ H Q => ta σ H fun x H' => ∃ k, TruV K x H' k ∧ Q k H') := by
  subst hK
  exact pt_truth ha he
section
variable {K : PySem.W.Frag} {σ : L2.St} {H H' : Hp} {ta tb te tx tv : TE} {t u : TT} {x y z v : V} {r : R2}
theorem et_truth {i : Int} (h : Ev te σ H (.int i)) : EvT (fun σ H Q => te σ H fun x H' => ∃ k, TruV K x H' k ∧ Q k H') σ H (i != 0) := fun H1 e Q q => h H1 e _ fun H2 e2 => ⟨_, rfl, q H2 e2⟩
/-- a comprehension over a text and a tuple, side by side -/
theorem el_lcZ {s : Str} {b : Addr} {ys : List V} {ta : TA} {i1 i2 : Nat} {vs : List Nat} (v : Nat → V) (h : EvA ta σ H [.str s, .ref b]) (hb : SqT K H b ys) (hl : ys.length = s.cps.size) (hz : s.cps.size ≤ 40000)
    (hw : ∀ x y, wipe (((wipe σ vs).set i1 (some x)).set i2 (some y)) vs = wipe σ vs)
    (he : ∀ (i c : Nat) (y : V) H1, Ex H H1 → s.cps[i]? = some c → ys[i]? = some y → Ev te (((wipe σ vs).set i1 (some (.str ⟨#[c]⟩))).set i2 (some y)) H1 (v i)) :
    EvL (tLc (iZipS K ta) (gTup K 2 (gCons (gName i1) (gCons (gName i2) gNil))) tYes te vs) σ H (given s.cps.size (fun _ => true) v) := fun H0 e Q q => h H0 e _ fun H1 e1 => ⟨s, b, ys, rfl, ex_t (e.trans e1) hb, fun Dl hD =>
  ⟨fun i m H' => m = s.cps.size - i ∧ i ≤ s.cps.size ∧ Cw H1 (fun _ => true) v Dl i H', ⟨s.cps.size, by simp, Nat.zero_le _, hD, Ex.new hD, upd_same⟩, by
    rintro i m H' ⟨rfl, hi, p⟩
    have hb' : SqT K H' b ys := ex_t ((e.trans e1).trans p.2.1) hb
    by_cases hlt : i < s.cps.size
    · refine .inr ⟨⟨ys, s.cps[i], ys[i], hb', by simp [hlt], by simp [hl, hlt]⟩, Cw H1 (fun _ => true) v Dl (i + 1), fun H2 p' => ⟨s.cps.size - (i + 1), by omega, rfl, hlt, p'⟩, ?_⟩
      rintro x H2 ⟨T, c, y, rfl, hT, rfl, hc, hy⟩
      have hy' := hy ys hb'
      have e2 : Ex H' (upd H' T (.tup [.str ⟨#[c]⟩, y])) := Ex.new hT
      have p' : Cw H1 (fun _ => true) v Dl i (upd H' T (.tup [.str ⟨#[c]⟩, y])) := ⟨p.1, p.2.1.trans e2, e2 _ _ p.2.2⟩
      exact ⟨T, _, rfl, st_of upd_same, rfl, _, _, rfl, _, _, rfl, rfl, hw _ _, cw_turn p' (by omega) et_yes (fun _ => he i c y H1 (e.trans e1) hc hy')⟩
    · have e2 : i = s.cps.size := by omega
      subst e2
      exact .inl ⟨⟨ys, hb', hl, hl.symm⟩, q Dl H' (fresh_back e1 p.1) (e1.trans p.2.1) p.2.2⟩⟩⟩
end
def nineS : Str := "rwxrwxrwx"
def nineB : List Int := [256, 128, 64, 32, 16, 8, 4, 2, 1]
def signAt (n i : Nat) : Str := if (Builtin.bitAnd (n : Nat) (nineB.getD i 0) != 0) = true then ⟨#[nineS.cps.toList.getD i 0]⟩ else "-"
def shown (n : Nat) : Str := Txt.join "" ((List.range 9).map (signAt n))
def spStr (a : Ads) : Sp := fun vs H Q _ => ∃ (p : Addr) (n : Nat), vs = [.ref p] ∧ ModeAt a H p n ∧ n < 512 ∧ ∀ H', Ex H H' → Q (.str (shown n)) H'
theorem dash1 : ("-" : Str).length = 1 := by decide +kernel
theorem sign1 (n i : Nat) : (signAt n i).length = 1 := by
  unfold signAt
  split
  · rfl
  · exact dash1
theorem nine_size : nineS.cps.size = 9 := by decide +kernel
section
variable {P : Program} {w : World} {K : PySem.W.Frag} {mg : Str → Option Value} {base : Heap} {a : Ads}
theorem ok_Mode_str (T : Txt w K mg a) : FnOk P w K mg base CX0 1 a.f_ModeD_strD a.d_ModeD_strD ["self"] (spStr a) := by
  refine T.fn_ModeD_strD.ok sc_ModeD_strD (fun vs H Q E h => ?_) (fun cdv A outer s H vs Q E hr h => ?_)
  · obtain ⟨_, _, rfl, _⟩ := h
    rfl
  · obtain ⟨p, n, rfl, ⟨dx, hp⟩, hn, k⟩ := h
    refine ⟨_, (pss_one (ps_ret (pe_join pe_str (pe_lc (own := [("sign", 1), ("bit", 2)]) (g := gTup K 2 (gCons (gName 1) (gCons (gName 2) gNil))) rfl sc_ModeD_strD.nd (pi_zipS (by rfl) T.b_zip (pa_cons (pe_glob (v := .str "rwxrwxrwx") rfl T.mg_NINE_SIGNS.choose_spec ⟨_, rfl⟩) (pa_cons (pe_glob (v := .ref a.k_NINE_BITS) rfl T.mg_NINE_BITS rfl) pa_nil))) (blkOk_by (own := [("sign", 1), ("bit", 2)]) (N := n_ModeD_strD) (sc := defScope s_ModeD_strD) (by decide +kernel)) (fun _ _ _ _ _ => (pg_tup rfl (pgs_cons (pg_name (i := 1) sc_ModeD_strD.nd rfl (Or.inl rfl)) (pgs_cons (pg_name (i := 2) sc_ModeD_strD.nd rfl (Or.inl rfl)) pgs_nil)))) (fun _ _ _ _ _ => pts_nil) (fun _ _ _ _ _ => (pe_ifExp (pt_truthE (K := K) (pe_op op_and (pe_fldE (K := K) (pv 0) rfl) (pv 2)) (by intro _; rfl)) (pv 1) pe_str)))))), ?_⟩
    refine s_ret (v := .str (shown n)) (ev_join (ys := (List.range 9).map (signAt n)) ev_c (el_is (el_lcZ (K := K) (s := nineS) (b := a.k_NINE_BITS) (ys := nineB.map V.int) (fun i => V.str (signAt n i)) (ea_cons ev_c (ea_cons ev_c ea_nil)) (T.t_NINE_BITS H) (by decide +kernel) (by decide +kernel) (fun _ _ => rfl) (fun i c y H1 e hc hy => ?_)) ?_) ?_) fun H1 e1 => k H1 e1
    · rw [← Array.getElem?_toList] at hc
      rw [List.getElem?_map] at hy
      obtain ⟨b, hb, rfl⟩ := Option.map_eq_some_iff.mp hy
      refine ev_if (b := (Builtin.bitAnd (n : Nat) b != 0)) (et_truth (ev_op (ev_fld (ev_var rfl) (e _ _ hp) T.c_Mode T.n_number_Mode (by simp [List.lookup])) (ev_var rfl) rv_I0)) (fun h => ev_is (ev_var rfl) ?_) (fun h => ev_is ev_c ?_)
      · unfold signAt
        rw [show nineB.getD i 0 = b by simp [List.getD, hb], if_pos h, show nineS.cps.toList.getD i 0 = c by simp [List.getD, hc]]
      · unfold signAt
        rw [show nineB.getD i 0 = b by simp [List.getD, hb], if_neg (by rw [h]; decide)]
    · rw [given_all, nine_size, List.map_map]
      rfl
    · have : ∀ l : List Nat, ((l.map (signAt n)).map (·.length)).sum = l.length := by
        intro l
        induction l with
        | nil => rfl
        | cons x l ih => simp only [List.map_cons, List.sum_cons, List.length_cons, ih, sign1]; omega
      rw [this, List.length_map, List.length_range, show ("" : Str).length = 0 from rfl]
      decide
end
/-! str of an own instance -/
section
variable {X : Cx} {CX : CXT} {C g : Addr} {n : Nat} {sp : Sp} {E : XK} {fd : FuncData} {ps : List Str}
def rStrOwn (C : Addr) (sp : Sp) (E : XK) : List V → Hp → VK → Prop := fun xs H Q => ∃ a dx fs, xs = [V.ref a] ∧ H a = some (.ins C dx fs) ∧ sp [.ref a] H (fun z H' => ∃ s, z = .str s ∧ Q z H') E
theorem call_strOwn (hs : PySem.W.findIn X.K (.ref C) "__str__" = some (some (.ref g))) (hf : PySem.W.isFn X.K (.ref g) = true) (F : FnR X.prog X.w X.K X.mg X.base CX n g sp) (hr : Room (n + 2) X.A) (hx : Passes CX X E) : CallR X (.type "str") (rStrOwn C sp E) := by
  intro pins s σ H xs us Q I r start
  obtain ⟨a, dx, fs, rfl, hsl, q⟩ := start
  obtain ⟨u, rfl, ru⟩ := r.one
  obtain rfl : u = Value.ref a := ru
  obtain ⟨ox, od, J, _⟩ := StX.insC_at (X := X) I (.inr ⟨dx, fs, hsl⟩)
  have low : Room (n + 1) X.A.in1 := Room.in1 hr
  have hr2 : Room n X.A.in1.in1 := low.in1
  refine PySem.W.kso_call hr2.units0 I.kIn J hs hf (wpAny_mono (wpAny_call (SlX.run_at (us := [.ref a]) (ws := [.ref a]) F hr2 I.env0.in1.in1 hx I (.cons rfl .nil) q)) (fun w s' z => ?_) fun _ _ x => x)
  obtain ⟨z', H', I', rz, s2, ei, qz⟩ := z
  subst ei
  obtain ⟨t, e⟩ := (show ∃ t, w = Value.str s2 t from rz)
  cases e
  exact ⟨.str s2, H', I', ⟨t, rfl⟩, qz⟩
end
end KC
set_option Elab.async false
set_option linter.all false
set_option maxRecDepth 100000
set_option maxHeartbeats 4000000
namespace KC
open PySem PySem.Spec PyProof.Rows L2 Evl
local macro_rules | `(tactic| walk_at "ev") => `(tactic| repeat' (first | exact ev_c | exact ev_var rfl | exact rv_I0 | refine' rv_I ?_ | refine' rv_eq ?_ | refine' rv_ne ?_ | refine' ev_op ?_ ?_ ?_ | exact ea_nil | refine' ea_cons ?_ ?_ | refine' et_test ?_ | refine' et_B ?_ | refine' et_not ?_ | refine' ev_notV ?_))

open PySem
/-! ### numbers joined -/
def opN (k n m : Nat) : Nat := match k with
  | 0 => n ||| m
  | 1 => n &&& m
  | _ => (n ||| m) - (n &&& m)
theorem or_cast (n m : Nat) : Builtin.bitOr (n : Int) (m : Int) = ((n ||| m : Nat) : Int) := by
  unfold Builtin.bitOr
  have h1 : decide ((0 : Int) ≤ Builtin.bitNot (n : Int)) = false := decide_eq_false (by unfold Builtin.bitNot; omega)
  have h2 : decide ((0 : Int) ≤ Builtin.bitNot (m : Int)) = false := decide_eq_false (by unfold Builtin.bitNot; omega)
  have e : ∀ x : Nat, (Builtin.bitNot (Builtin.bitNot (x : Int))).toNat = x := fun x => by unfold Builtin.bitNot; omega
  unfold Builtin.bitAnd
  rw [h1, h2]
  show Builtin.bitNot (Builtin.bitNot (((Builtin.bitNot (Builtin.bitNot (n : Int))).toNat ||| (Builtin.bitNot (Builtin.bitNot (m : Int))).toNat : Nat) : Int)) = _
  rw [e, e]
  unfold Builtin.bitNot
  omega
theorem and_cast (n m : Nat) : Builtin.bitAnd (n : Int) (m : Int) = ((n &&& m : Nat) : Int) := rfl
theorem and_le_or (n m : Nat) : n &&& m ≤ n ||| m := Nat.le_trans Nat.and_le_left Nat.left_le_or
theorem xor_cast (n m : Nat) : Builtin.bitXor (n : Int) (m : Int) = (((n ||| m) - (n &&& m) : Nat) : Int) := by
  unfold Builtin.bitXor
  rw [or_cast, and_cast]
  have := and_le_or n m
  omega
theorem opN_lt (k : Nat) {n m : Nat} (hn : n < 512) (hm : m < 512) : opN k n m < 512 := by
  have h : n ||| m < 512 := Nat.or_lt_two_pow (n := 9) hn hm
  have := and_le_or n m
  match k with
  | 0 => exact h
  | 1 => exact Nat.lt_of_le_of_lt this h
  | _ + 2 => exact Nat.lt_of_le_of_lt (Nat.sub_le _ _) h
theorem opN_comm (k n m : Nat) : opN k n m = opN k m n := by
  match k with
  | 0 => exact Nat.or_comm n m
  | 1 => exact Nat.and_comm n m
  | _ + 2 =>
    show (n ||| m) - (n &&& m) = (m ||| n) - (m &&& n)
    rw [Nat.or_comm, Nat.and_comm]
/-! ### promises -/
/-- a Mode of number m, or m itself -/
def Opd (a : Ads) (H : Hp) (y : V) (m : Nat) : Prop := m < 512 ∧ (y = .int (m : Nat) ∨ ∃ q, y = .ref q ∧ ModeAt a H q m)
theorem Opd.mono {a : Ads} {H H' : Hp} {y : V} {m : Nat} (h : Opd a H y m) (e : Ex H H') : Opd a H' y m := ⟨h.1, h.2.imp id fun ⟨q, r, m⟩ => ⟨q, r, m.mono e⟩⟩
def BadI (y : V) : Prop := ∃ i : Int, y = .int i ∧ (i < 0 ∨ 511 < i)
def spStand (a : Ads) : Sp := fun vs H Q _ => ∃ y : V, vs = [y] ∧ ((∃ m, Opd a H y m) ∨ BadI y) ∧ ∀ H', Ex H H' → Q (.bl true) H'
def spNum (a : Ads) : Sp := fun vs H Q E => ∃ y : V, vs = [y] ∧ ((∃ m : Nat, Opd a H y m ∧ ∀ H', Ex H H' → Q (.int (m : Nat)) H') ∨ (BadI y ∧ Told a E H "number"))
def spOwn (a : Ads) (k : Nat) : Sp := fun vs H Q E => ∃ (p : Addr) (n : Nat) (y : V), vs = [.ref p, y] ∧ ModeAt a H p n ∧ n < 512 ∧ ((∃ m : Nat, Opd a H y m ∧ ∀ q H', H q = none → Ex H H' → ModeAt a H' q (opN k n m) → Q (.ref q) H') ∨ (BadI y ∧ Told a E H "number"))
section
variable {P : Program} {w : World} {K : PySem.W.Frag} {mg : Str → Option Value} {base : Heap} {a : Ads}
theorem opd_kinds {H : Hp} {y : V} (T : Txt w K mg a) (h : (∃ m, Opd a H y m) ∨ BadI y) : (∃ i : Int, y = .int i) ∨ ∃ q m, y = .ref q ∧ ModeAt a H q m := by
  rcases h with ⟨m, _, rfl | ⟨q, rfl, hq⟩⟩ | ⟨i, rfl, _⟩
  · exact .inl ⟨_, rfl⟩
  · exact .inr ⟨q, m, rfl, hq⟩
  · exact .inl ⟨_, rfl⟩
theorem ok_may_stand (T : Txt w K mg a) : FnOk P w K mg base CX0 2 a.f_may_stand a.d_may_stand ["value"] (spStand a) := by
  have G_is_whole : FnOk P w K mg base CX0 1 _ _ _ _ := ok_is_whole1 T
  refine T.fn_may_stand.ok sc_may_stand (fun vs H Q E h => ?_) (fun cdv A outer s H vs Q E hr h => ?_)
  · obtain ⟨_, rfl, _⟩ := h
    rfl
  · obtain ⟨y, rfl, hy, k⟩ := h
    have hrc : Room 1 _ := hr
    refine ⟨_, (pss_one (ps_ret (pe_or (pe_callB call_isi (by rfl) T.b_isinstance PyProof.Rows.boot_isinstance (pa_cons (pv 0) (pa_cons (pe_glob (v := .ref a.f_Mode) rfl T.mg_Mode rfl) pa_nil))) (pe_one (pe_call G_is_whole hrc rfl T.mg_is_whole T.fn_is_whole.kp (bd_is_whole T) .nil pass0 (pa_cons (pv 0) pa_nil)))))), ?_⟩
    rcases opd_kinds T hy with ⟨i, rfl⟩ | ⟨q, m, rfl, hq⟩
    · exact s_ret (v := .bl true) (ev_orV (a := false) (ev_isi (ea_cons (ev_var rfl) (ea_cons ev_c ea_nil)) (.own _) (fun _ _ => .base (.int i)) T.ii_Mode) fun _ => ev_call (vs := [.int i]) (ea_cons (ev_var rfl) ea_nil) fun H1 e Q q E => ⟨.int i, "int", true, false, rfl, fun _ _ => .base (.int _), by decide +kernel, by decide +kernel, q⟩) fun H1 e1 => k H1 e1
    · exact s_ret (v := .bl true) (ev_orV (a := true) (b := true) (ev_isi (ea_cons (ev_var rfl) (ea_cons ev_c ea_nil)) (.own _) (fun H' e' => tyx_mode T (hq.mono e')) T.is_Mode) fun z => nomatch z) fun H1 e1 => k H1 e1
theorem ok_number_of (T : Txt w K mg a) : FnOk P w K mg base (L2.CX P w) 5 a.f_number_of a.d_number_of ["mode"] (spNum a) := by
  have G_is_whole_to : FnOk P w K mg base CX0 4 _ _ _ _ := (FnOk.either (ok_is_whole_to T) (ok_is_whole2 T)).mono (by decide)
  have G_Mode_number : FnOk P w K mg base CX0 3 _ _ _ _ := (ok_Mode_number T).mono (by decide)
  have G_BadMode_init : FnOk P w K mg base CX0 3 _ _ _ _ := (ok_BadMode_init T).mono (by decide)
  refine T.fn_number_of.okX sc_number_of (fun vs H Q E h => ?_) (fun cdv A outer s H vs Q E hr h => ?_)
  · obtain ⟨_, rfl, _⟩ := h
    rfl
  · obtain ⟨y, rfl, h⟩ := h
    have hrc : Room 4 _ := hr
    have hrm : Room (3 + 1) _ := hr
    obtain ⟨tm, hm⟩ := T.k_Mode_MOST
    refine ⟨_, (pss_cons (ps_if (pt_val (pe_callB call_isi (by rfl) T.b_isinstance PyProof.Rows.boot_isinstance (pa_cons (pv 0) (pa_cons (pe_glob (v := .ref a.f_Mode) rfl T.mg_Mode rfl) pa_nil)))) (pss_one (ps_ret (pe_prop (pv 0) T.c_Mode T.p_Mode_number (G_Mode_number) hrm (bd_Mode_number T) .nil pass0 rfl))) pss_nil)
    (pss_cons (ps_if (pt_not (pt_val (pe_call G_is_whole_to hrc rfl T.mg_is_whole_to T.fn_is_whole_to.kp (bd_is_whole_to T) .nil pass0 (pa_cons (pv 0) (pa_cons (ClX.pe_cval (pe_glob (v := .ref a.f_Mode) rfl T.mg_Mode rfl)) pa_nil))))) (pss_one (ps_raise rfl (takes_of rfl rfl rfl rfl) (pmk_oex T.ox_BadMode T.ic_BadMode T.it_BadMode G_BadMode_init hrm (bd_BadModeD_initD T) .nil pass0 rfl T.mg_BadMode (pa_cons pe_str pa_nil)))) pss_nil)
    (pss_one (ps_ret (pv 0))))), ?_⟩
    rcases h with ⟨m, ⟨hm5, rfl | ⟨q, rfl, hq⟩⟩, k⟩ | ⟨⟨i, rfl, hi⟩, told⟩
    · refine q_when (b := false) (et_B (ev_isi (ea_cons (ev_var rfl) (ea_cons ev_c ea_nil)) (.own _) (fun _ _ => .base (.int _)) T.ii_Mode)) (fun z => nomatch z) fun _ H1 e1 => ?_
      refine q_when (b := false) (et_not (a := true) (et_B (ev_call (sp := fun vs H Q E => spTrue2 vs H Q E ∨ spW2 K vs H Q E) (dvs := []) (vs := [.int (m : Nat), .int 511]) (ea_cons (ev_var (i := 0) rfl) (ea_cons (ev_cval ev_c T.r_Mode hm) ea_nil)) fun H2 e Q q E => .inl ⟨m, 511, rfl, by omega, by omega, q⟩))) (fun z => nomatch z) fun _ H2 e2 => ?_
      exact s_ret (v := .int (m : Nat)) (ev_var rfl) fun H3 e3 => k H3 ((e1.trans e2).trans e3)
    · obtain ⟨dx, hp⟩ := id hq
      refine q_when (b := true) (et_B (ev_isi (ea_cons (ev_var rfl) (ea_cons ev_c ea_nil)) (.own _) (fun H' e' => tyx_mode T (hq.mono e')) T.is_Mode)) (fun _ H1 e1 => ?_) fun z => nomatch z
      exact s_ret (v := .int (m : Nat)) (ev_prop (ev_var rfl) (e1 _ _ hp) (spv_get (e1 _ _ hp) (by simp [List.lookup]))) fun H2 e2 => k H2 (e1.trans e2)
    · refine q_when (b := false) (et_B (ev_isi (ea_cons (ev_var rfl) (ea_cons ev_c ea_nil)) (.own _) (fun _ _ => .base (.int _)) T.ii_Mode)) (fun z => nomatch z) fun _ H1 e1 => ?_
      refine q_when (b := true) (et_is (et_not (a := false) (et_B (ev_call (sp := fun vs H Q E => spTrue2 vs H Q E ∨ spW2 K vs H Q E) (dvs := []) (vs := [.int i, .int 511]) (ea_cons (ev_var (i := 0) rfl) (ea_cons (ev_cval ev_c T.r_Mode hm) ea_nil)) fun H2 e Q q E => .inr ⟨.int i, 511, rfl, .inr ⟨i, rfl, hi⟩, q⟩))) rfl) (fun _ H2 e2 => ?_) (fun z => nomatch z)
      exact ⟨by show 1 ≤ 1000; decide, raise_told (told.back (e1.trans e2))⟩
theorem ok_own_or (T : Txt w K mg a) : FnOk P w K mg base (L2.CX P w) 7 a.f_ModeD_orD a.d_ModeD_orD ["self", "other"] (spOwn a 0) := by
  have G_may_stand : FnOk P w K mg base CX0 6 _ _ _ _ := (ok_may_stand T).mono (by decide)
  have G_number_of : FnOk P w K mg base (L2.CX P w) 6 _ _ _ _ := (ok_number_of T).mono (by decide)
  have G_Mode_init : FnOk P w K mg base CX0 5 _ _ _ _ := ok_Mode_init T
  refine T.fn_ModeD_orD.okX sc_ModeD_orD (fun vs H Q E h => ?_) (fun cdv A outer s H vs Q E hr h => ?_)
  · obtain ⟨_, _, _, rfl, _⟩ := h
    rfl
  · obtain ⟨p, n, y, rfl, hp, hn, h⟩ := h
    have hrc : Room 6 _ := hr
    have hrm : Room (5 + 1) _ := hr
    obtain ⟨dx, ho⟩ := id hp
    refine ⟨_, (pss_cons (ps_if (pt_not (pt_val (pe_call G_may_stand hrc rfl T.mg_may_stand T.fn_may_stand.kp (bd_may_stand T) .nil pass0 (pa_cons (pv 1) pa_nil)))) (pss_one ps_never) pss_nil)
    (pss_one (ps_ret (pe_make T.mk_Mode G_Mode_init hrm rfl T.mg_Mode (bd_ModeD_initD T) .nil pass0 (pa_cons (pe_op op_or (pe_fld (pv 0) rfl) (pe_call G_number_of hrc rfl T.mg_number_of T.fn_number_of.kp (bd_number_of T) .nil (passes_call (takes_of rfl rfl rfl rfl) fun _ _ _ _ h => h) (pa_cons (pv 1) pa_nil))) pa_nil))))), ?_⟩
    refine q_when (b := false) (et_not (a := true) (et_B (ev_call (vs := [y]) (ea_cons (ev_var rfl) ea_nil) fun H1 e Q q E => ⟨y, rfl, h.imp (fun ⟨m, o, _⟩ => ⟨m, o.mono e⟩) (fun z => z.1), q⟩))) (fun z => nomatch z) fun _ H1 e1 => ?_
    rcases h with ⟨m, hy, k⟩ | ⟨bad, told⟩
    · refine em_mode (a := a) (n := opN 0 n m) (ev_is (ev_op (ev_fld (ev_var rfl) (e1 _ _ ho) T.c_Mode T.n_number_Mode (by simp [List.lookup])) (fun H2 e2 Q2 q2 => ⟨_, rfl, y, rfl, .inl ⟨m, hy.mono (e1.trans e2), q2⟩⟩) rv_I0) (congrArg V.int (or_cast n m))) (opN_lt 0 hn hy.1) H1 (Ex.refl _) _ fun q H2 hq e2 mq => k q H2 (fresh_back e1 hq) (e1.trans e2) mq
    · exact ⟨_, rfl, p, a.f_Mode, dx, _, _, rfl, e1 _ _ ho, T.c_Mode, T.n_number_Mode, (by simp [List.lookup]; rfl), _, rfl, y, rfl, .inr ⟨bad, told.back e1⟩⟩
theorem ok_rown_or (T : Txt w K mg a) : FnOk P w K mg base (L2.CX P w) 8 a.f_ModeD_rorD a.d_ModeD_rorD ["self", "other"] (spOwn a 0) := by
  have G_own : FnOk P w K mg base (L2.CX P w) 7 _ _ _ _ := ok_own_or T
  refine T.fn_ModeD_rorD.okX sc_ModeD_rorD (fun vs H Q E h => ?_) (fun cdv A outer s H vs Q E hr h => ?_)
  · obtain ⟨_, _, _, rfl, _⟩ := h
    rfl
  · obtain ⟨p, n, y, rfl, hp, hn, h⟩ := h
    have hrc : Room 7 _ := hr
    obtain ⟨dx, ho⟩ := id hp
    refine ⟨_, (pss_one (ps_ret (pe_op (op_binF rfl T.bf_or bi_or (G_own.raw (bd_ModeD_orD T) .nil) hrc (passes_call (takes_of rfl rfl rfl rfl) fun _ _ _ _ h => h)) (pv 0) (pv 1)))), ?_⟩
    refine ⟨_, rfl, y, rfl, p, dx, _, rfl, ho, ?_, p, n, y, rfl, hp, hn, h⟩
    rcases opd_kinds T (h.imp (fun ⟨m, o, _⟩ => ⟨m, o⟩) fun z => z.1) with ⟨i, rfl⟩ | ⟨q, m, rfl, dq, hq⟩
    · exact .inr ⟨i, rfl⟩
    · exact .inl ⟨q, dq, _, rfl, hq⟩
theorem ok_own_and (T : Txt w K mg a) : FnOk P w K mg base (L2.CX P w) 7 a.f_ModeD_andD a.d_ModeD_andD ["self", "other"] (spOwn a 1) := by
  have G_may_stand : FnOk P w K mg base CX0 6 _ _ _ _ := (ok_may_stand T).mono (by decide)
  have G_number_of : FnOk P w K mg base (L2.CX P w) 6 _ _ _ _ := (ok_number_of T).mono (by decide)
  have G_Mode_init : FnOk P w K mg base CX0 5 _ _ _ _ := ok_Mode_init T
  refine T.fn_ModeD_andD.okX sc_ModeD_andD (fun vs H Q E h => ?_) (fun cdv A outer s H vs Q E hr h => ?_)
  · obtain ⟨_, _, _, rfl, _⟩ := h
    rfl
  · obtain ⟨p, n, y, rfl, hp, hn, h⟩ := h
    have hrc : Room 6 _ := hr
    have hrm : Room (5 + 1) _ := hr
    obtain ⟨dx, ho⟩ := id hp
    refine ⟨_, (pss_cons (ps_if (pt_not (pt_val (pe_call G_may_stand hrc rfl T.mg_may_stand T.fn_may_stand.kp (bd_may_stand T) .nil pass0 (pa_cons (pv 1) pa_nil)))) (pss_one ps_never) pss_nil)
    (pss_one (ps_ret (pe_make T.mk_Mode G_Mode_init hrm rfl T.mg_Mode (bd_ModeD_initD T) .nil pass0 (pa_cons (pe_op op_and (pe_fld (pv 0) rfl) (pe_call G_number_of hrc rfl T.mg_number_of T.fn_number_of.kp (bd_number_of T) .nil (passes_call (takes_of rfl rfl rfl rfl) fun _ _ _ _ h => h) (pa_cons (pv 1) pa_nil))) pa_nil))))), ?_⟩
    refine q_when (b := false) (et_not (a := true) (et_B (ev_call (vs := [y]) (ea_cons (ev_var rfl) ea_nil) fun H1 e Q q E => ⟨y, rfl, h.imp (fun ⟨m, o, _⟩ => ⟨m, o.mono e⟩) (fun z => z.1), q⟩))) (fun z => nomatch z) fun _ H1 e1 => ?_
    rcases h with ⟨m, hy, k⟩ | ⟨bad, told⟩
    · refine em_mode (a := a) (n := opN 1 n m) (ev_is (ev_op (ev_fld (ev_var rfl) (e1 _ _ ho) T.c_Mode T.n_number_Mode (by simp [List.lookup])) (fun H2 e2 Q2 q2 => ⟨_, rfl, y, rfl, .inl ⟨m, hy.mono (e1.trans e2), q2⟩⟩) rv_I0) (congrArg V.int (and_cast n m))) (opN_lt 1 hn hy.1) H1 (Ex.refl _) _ fun q H2 hq e2 mq => k q H2 (fresh_back e1 hq) (e1.trans e2) mq
    · exact ⟨_, rfl, p, a.f_Mode, dx, _, _, rfl, e1 _ _ ho, T.c_Mode, T.n_number_Mode, (by simp [List.lookup]; rfl), _, rfl, y, rfl, .inr ⟨bad, told.back e1⟩⟩
theorem ok_rown_and (T : Txt w K mg a) : FnOk P w K mg base (L2.CX P w) 8 a.f_ModeD_randD a.d_ModeD_randD ["self", "other"] (spOwn a 1) := by
  have G_own : FnOk P w K mg base (L2.CX P w) 7 _ _ _ _ := ok_own_and T
  refine T.fn_ModeD_randD.okX sc_ModeD_randD (fun vs H Q E h => ?_) (fun cdv A outer s H vs Q E hr h => ?_)
  · obtain ⟨_, _, _, rfl, _⟩ := h
    rfl
  · obtain ⟨p, n, y, rfl, hp, hn, h⟩ := h
    have hrc : Room 7 _ := hr
    obtain ⟨dx, ho⟩ := id hp
    refine ⟨_, (pss_one (ps_ret (pe_op (op_binF rfl T.bf_and bi_and (G_own.raw (bd_ModeD_andD T) .nil) hrc (passes_call (takes_of rfl rfl rfl rfl) fun _ _ _ _ h => h)) (pv 0) (pv 1)))), ?_⟩
    refine ⟨_, rfl, y, rfl, p, dx, _, rfl, ho, ?_, p, n, y, rfl, hp, hn, h⟩
    rcases opd_kinds T (h.imp (fun ⟨m, o, _⟩ => ⟨m, o⟩) fun z => z.1) with ⟨i, rfl⟩ | ⟨q, m, rfl, dq, hq⟩
    · exact .inr ⟨i, rfl⟩
    · exact .inl ⟨q, dq, _, rfl, hq⟩
theorem ok_own_xor (T : Txt w K mg a) : FnOk P w K mg base (L2.CX P w) 7 a.f_ModeD_xorD a.d_ModeD_xorD ["self", "other"] (spOwn a 2) := by
  have G_may_stand : FnOk P w K mg base CX0 6 _ _ _ _ := (ok_may_stand T).mono (by decide)
  have G_number_of : FnOk P w K mg base (L2.CX P w) 6 _ _ _ _ := (ok_number_of T).mono (by decide)
  have G_Mode_init : FnOk P w K mg base CX0 5 _ _ _ _ := ok_Mode_init T
  refine T.fn_ModeD_xorD.okX sc_ModeD_xorD (fun vs H Q E h => ?_) (fun cdv A outer s H vs Q E hr h => ?_)
  · obtain ⟨_, _, _, rfl, _⟩ := h
    rfl
  · obtain ⟨p, n, y, rfl, hp, hn, h⟩ := h
    have hrc : Room 6 _ := hr
    have hrm : Room (5 + 1) _ := hr
    obtain ⟨dx, ho⟩ := id hp
    refine ⟨_, (pss_cons (ps_if (pt_not (pt_val (pe_call G_may_stand hrc rfl T.mg_may_stand T.fn_may_stand.kp (bd_may_stand T) .nil pass0 (pa_cons (pv 1) pa_nil)))) (pss_one ps_never) pss_nil)
    (pss_one (ps_ret (pe_make T.mk_Mode G_Mode_init hrm rfl T.mg_Mode (bd_ModeD_initD T) .nil pass0 (pa_cons (pe_op op_xor (pe_fld (pv 0) rfl) (pe_call G_number_of hrc rfl T.mg_number_of T.fn_number_of.kp (bd_number_of T) .nil (passes_call (takes_of rfl rfl rfl rfl) fun _ _ _ _ h => h) (pa_cons (pv 1) pa_nil))) pa_nil))))), ?_⟩
    refine q_when (b := false) (et_not (a := true) (et_B (ev_call (vs := [y]) (ea_cons (ev_var rfl) ea_nil) fun H1 e Q q E => ⟨y, rfl, h.imp (fun ⟨m, o, _⟩ => ⟨m, o.mono e⟩) (fun z => z.1), q⟩))) (fun z => nomatch z) fun _ H1 e1 => ?_
    rcases h with ⟨m, hy, k⟩ | ⟨bad, told⟩
    · refine em_mode (a := a) (n := opN 2 n m) (ev_is (ev_op (ev_fld (ev_var rfl) (e1 _ _ ho) T.c_Mode T.n_number_Mode (by simp [List.lookup])) (fun H2 e2 Q2 q2 => ⟨_, rfl, y, rfl, .inl ⟨m, hy.mono (e1.trans e2), q2⟩⟩) rv_I0) (congrArg V.int (xor_cast n m))) (opN_lt 2 hn hy.1) H1 (Ex.refl _) _ fun q H2 hq e2 mq => k q H2 (fresh_back e1 hq) (e1.trans e2) mq
    · exact ⟨_, rfl, p, a.f_Mode, dx, _, _, rfl, e1 _ _ ho, T.c_Mode, T.n_number_Mode, (by simp [List.lookup]; rfl), _, rfl, y, rfl, .inr ⟨bad, told.back e1⟩⟩
theorem ok_rown_xor (T : Txt w K mg a) : FnOk P w K mg base (L2.CX P w) 8 a.f_ModeD_rxorD a.d_ModeD_rxorD ["self", "other"] (spOwn a 2) := by
  have G_own : FnOk P w K mg base (L2.CX P w) 7 _ _ _ _ := ok_own_xor T
  refine T.fn_ModeD_rxorD.okX sc_ModeD_rxorD (fun vs H Q E h => ?_) (fun cdv A outer s H vs Q E hr h => ?_)
  · obtain ⟨_, _, _, rfl, _⟩ := h
    rfl
  · obtain ⟨p, n, y, rfl, hp, hn, h⟩ := h
    have hrc : Room 7 _ := hr
    obtain ⟨dx, ho⟩ := id hp
    refine ⟨_, (pss_one (ps_ret (pe_op (op_binF rfl T.bf_xor bi_xor (G_own.raw (bd_ModeD_xorD T) .nil) hrc (passes_call (takes_of rfl rfl rfl rfl) fun _ _ _ _ h => h)) (pv 0) (pv 1)))), ?_⟩
    refine ⟨_, rfl, y, rfl, p, dx, _, rfl, ho, ?_, p, n, y, rfl, hp, hn, h⟩
    rcases opd_kinds T (h.imp (fun ⟨m, o, _⟩ => ⟨m, o⟩) fun z => z.1) with ⟨i, rfl⟩ | ⟨q, m, rfl, dq, hq⟩
    · exact .inr ⟨i, rfl⟩
    · exact .inl ⟨q, dq, _, rfl, hq⟩
end
end KC
set_option Elab.async false
set_option linter.all false
set_option maxRecDepth 100000
set_option maxHeartbeats 4000000
namespace KC
open PySem PySem.Spec PyProof.Rows L2 Evl
local macro_rules | `(tactic| walk_at "ev") => `(tactic| repeat' (first | exact ev_c | exact ev_var rfl | exact rv_I0 | refine' rv_I ?_ | refine' rv_eq ?_ | refine' rv_ne ?_ | refine' ev_op ?_ ?_ ?_ | exact ea_nil | refine' ea_cons ?_ ?_ | refine' et_test ?_ | refine' et_B ?_ | refine' et_not ?_ | refine' ev_notV ?_))

open PySem
/-! ### bit by bit -/
theorem bit_or (a b i : Nat) : (a ||| b) / 2 ^ i % 2 = if 0 < a / 2 ^ i % 2 + b / 2 ^ i % 2 then 1 else 0 := by
  have h := Nat.testBit_or a b i
  rw [Nat.testBit_eq_decide_div_mod_eq, Nat.testBit_eq_decide_div_mod_eq, Nat.testBit_eq_decide_div_mod_eq] at h
  have h1 := Nat.mod_lt (a / 2 ^ i) (show 0 < 2 by decide)
  have h2 := Nat.mod_lt (b / 2 ^ i) (show 0 < 2 by decide)
  have h3 := Nat.mod_lt ((a ||| b) / 2 ^ i) (show 0 < 2 by decide)
  generalize a / 2 ^ i % 2 = x at h h1 ⊢
  generalize b / 2 ^ i % 2 = y at h h2 ⊢
  generalize (a ||| b) / 2 ^ i % 2 = z at h h3 ⊢
  have q : z = 1 ↔ (x = 1 ∨ y = 1) := by
    rw [← Bool.decide_or] at h
    exact decide_eq_decide.mp h
  split <;> omega
theorem bit_and (a b i : Nat) : (a &&& b) / 2 ^ i % 2 = if a / 2 ^ i % 2 + b / 2 ^ i % 2 = 2 then 1 else 0 := by
  have h := Nat.testBit_and a b i
  rw [Nat.testBit_eq_decide_div_mod_eq, Nat.testBit_eq_decide_div_mod_eq, Nat.testBit_eq_decide_div_mod_eq] at h
  have h1 := Nat.mod_lt (a / 2 ^ i) (show 0 < 2 by decide)
  have h2 := Nat.mod_lt (b / 2 ^ i) (show 0 < 2 by decide)
  have h3 := Nat.mod_lt ((a &&& b) / 2 ^ i) (show 0 < 2 by decide)
  generalize a / 2 ^ i % 2 = x at h h1 ⊢
  generalize b / 2 ^ i % 2 = y at h h2 ⊢
  generalize (a &&& b) / 2 ^ i % 2 = z at h h3 ⊢
  have q : z = 1 ↔ (x = 1 ∧ y = 1) := by
    rw [← Bool.decide_and] at h
    exact decide_eq_decide.mp h
  split <;> omega
def hitB (k a b i : Nat) : Bool := (decide (k = 0) && decide (0 < a / 2 ^ i % 2 + b / 2 ^ i % 2)) || ((decide (k = 1) && decide (a / 2 ^ i % 2 + b / 2 ^ i % 2 = 2)) || (decide (k = 2) && decide (a / 2 ^ i % 2 + b / 2 ^ i % 2 = 1)))
def sumB (k a b : Nat) : Nat → Nat
  | 0 => 0
  | j + 1 => sumB k a b j + (if hitB k a b j = true then 2 ^ j else 0)
theorem sum_or (a b : Nat) : ∀ j, sumB 0 a b j = (a ||| b) % 2 ^ j
  | 0 => by show 0 = _; rw [Nat.pow_zero, Nat.mod_one]
  | j + 1 => by
    rw [Nat.mod_pow_succ, bit_or, ← sum_or a b j]
    show sumB 0 a b j + (if hitB 0 a b j = true then 2 ^ j else 0) = _
    have h : hitB 0 a b j = decide (0 < a / 2 ^ j % 2 + b / 2 ^ j % 2) := by unfold hitB; simp
    rw [h]
    by_cases q : 0 < a / 2 ^ j % 2 + b / 2 ^ j % 2
    · rw [if_pos q, if_pos (decide_eq_true q), Nat.mul_one]
    · rw [if_neg q, if_neg (by rw [decide_eq_false q]; decide), Nat.mul_zero]
theorem sum_and (a b : Nat) : ∀ j, sumB 1 a b j = (a &&& b) % 2 ^ j
  | 0 => by show 0 = _; rw [Nat.pow_zero, Nat.mod_one]
  | j + 1 => by
    rw [Nat.mod_pow_succ, bit_and, ← sum_and a b j]
    show sumB 1 a b j + (if hitB 1 a b j = true then 2 ^ j else 0) = _
    have h : hitB 1 a b j = decide (a / 2 ^ j % 2 + b / 2 ^ j % 2 = 2) := by unfold hitB; simp
    rw [h]
    by_cases q : a / 2 ^ j % 2 + b / 2 ^ j % 2 = 2
    · rw [if_pos q, if_pos (decide_eq_true q), Nat.mul_one]
    · rw [if_neg q, if_neg (by rw [decide_eq_false q]; decide), Nat.mul_zero]
theorem sum_xor (a b : Nat) : ∀ j, sumB 2 a b j + sumB 1 a b j = sumB 0 a b j
  | 0 => rfl
  | j + 1 => by
    have ih := sum_xor a b j
    show (sumB 2 a b j + (if hitB 2 a b j = true then 2 ^ j else 0)) + (sumB 1 a b j + (if hitB 1 a b j = true then 2 ^ j else 0)) = sumB 0 a b j + (if hitB 0 a b j = true then 2 ^ j else 0)
    have e : (if hitB 2 a b j = true then 2 ^ j else 0) + (if hitB 1 a b j = true then 2 ^ j else 0) = (if hitB 0 a b j = true then 2 ^ j else 0) := by
      unfold hitB
      have h1 := Nat.mod_lt (a / 2 ^ j) (show 0 < 2 by decide)
      have h2 := Nat.mod_lt (b / 2 ^ j) (show 0 < 2 by decide)
      have h3 : a / 2 ^ j % 2 + b / 2 ^ j % 2 = 0 ∨ a / 2 ^ j % 2 + b / 2 ^ j % 2 = 1 ∨ a / 2 ^ j % 2 + b / 2 ^ j % 2 = 2 := by omega
      rcases h3 with h | h | h <;> rw [h] <;> simp
    omega
theorem sum_is {k a b : Nat} (hk : k < 3) (ha : a < 512) (hb : b < 512) : sumB k a b 9 = opN k a b := by
  have h0 : a ||| b < 512 := Nat.or_lt_two_pow (n := 9) ha hb
  have h1 := and_le_or a b
  have e0 : sumB 0 a b 9 = a ||| b := (sum_or a b 9).trans (Nat.mod_eq_of_lt h0)
  have e1 : sumB 1 a b 9 = a &&& b := (sum_and a b 9).trans (Nat.mod_eq_of_lt (Nat.lt_of_le_of_lt h1 h0))
  match k, hk with
  | 0, _ => exact e0
  | 1, _ => exact e1
  | 2, _ =>
    have := sum_xor a b 9
    show _ = (a ||| b) - (a &&& b)
    omega
/-! ### promises -/
def Good (a : Ads) (H : Hp) (x y : V) (n m : Nat) : Prop := (∃ p, x = .ref p ∧ ModeAt a H p n ∧ n < 512 ∧ Opd a H y m) ∨ ∃ q, x = .int (n : Nat) ∧ n < 512 ∧ y = .ref q ∧ ModeAt a H q m ∧ m < 512
def BadP (a : Ads) (H : Hp) (x y : V) : Prop := (∃ p n, x = .ref p ∧ ModeAt a H p n ∧ n < 512 ∧ BadI y) ∨ ∃ q m, BadI x ∧ y = .ref q ∧ ModeAt a H q m ∧ m < 512
theorem Good.mono {a : Ads} {H H' : Hp} {x y : V} {n m : Nat} (h : Good a H x y n m) (e : Ex H H') : Good a H' x y n m := h.imp (fun ⟨p, r, mp, hn, o⟩ => ⟨p, r, mp.mono e, hn, o.mono e⟩) fun ⟨q, r, hn, r2, mq, hm⟩ => ⟨q, r, hn, r2, mq.mono e, hm⟩
theorem BadP.mono {a : Ads} {H H' : Hp} {x y : V} (h : BadP a H x y) (e : Ex H H') : BadP a H' x y := h.imp (fun ⟨p, n, r, mp, hn, o⟩ => ⟨p, n, r, mp.mono e, hn, o⟩) fun ⟨q, m, b, r, mq, hm⟩ => ⟨q, m, b, r, mq.mono e, hm⟩
def spPut (a : Ads) : Sp := fun vs H Q E => ∃ (k : Nat) (x y : V), vs = [.int (k : Nat), x, y] ∧ k < 3 ∧ ((∃ n m : Nat, Good a H x y n m ∧ ∀ q H', H q = none → Ex H H' → ModeAt a H' q (opN k n m) → Q (.ref q) H') ∨ (BadP a H x y ∧ Told a E H "number"))
def spInv (a : Ads) : Sp := fun vs H Q _ => ∃ (p : Addr) (n : Nat), vs = [.ref p] ∧ ModeAt a H p n ∧ n < 512 ∧ ∀ q H', H q = none → Ex H H' → ModeAt a H' q (511 - n) → Q (.ref q) H'
/-- a value that no mode has in it -/
def NoBit (K : PySem.W.Frag) (a : Ads) (H : Hp) (y : V) : Prop := BadI y ∨ ∃ (t : String) (b1 b2 : Bool), TyE K H y t ∧ kitB t "int" = some b1 ∧ kitB t "bool" = some b2 ∧ (b1 && !b2) = false ∧ PySem.W.kitOne K (.type t) (.ref a.f_Mode) = some false
def spCont (K : PySem.W.Frag) (a : Ads) : Sp := fun vs H Q _ => ∃ (p : Addr) (n : Nat) (y : V), vs = [.ref p, y] ∧ ModeAt a H p n ∧ n < 512 ∧ ((∃ m : Nat, Opd a H y m ∧ ∀ H', Ex H H' → Q (.bl (decide (n &&& m = m))) H') ∨ (NoBit K a H y ∧ ∀ H', Ex H H' → Q (.bl false) H'))
def spBits : Sp := fun vs H Q _ => ∃ k a b : Nat, vs = [.int (k : Nat), .int (a : Nat), .int (b : Nat)] ∧ k < 3 ∧ a < 512 ∧ b < 512 ∧ ∀ H', Ex H H' → Q (.int (opN k a b : Nat)) H'
def spIsMode (a : Ads) : Sp := fun vs H Q _ => ∃ (q : Addr) (n : Nat), vs = [.ref q, .int (n : Nat)] ∧ ModeAt a H q n ∧ ∀ H', Ex H H' → Q (.bl true) H'
section
variable {a : Ads} {H : Hp} {x y : V} {n m k : Nat} {E : XK} {Q : VK}
theorem opd_right (h : Opd a H y m ∨ BadI y) : (∃ q dy gs, y = .ref q ∧ H q = some (.ins a.f_Mode dy gs)) ∨ ∃ i, y = .int i := by
  rcases h with ⟨_, rfl | ⟨q, rfl, dx, hq⟩⟩ | ⟨i, rfl, _⟩
  · exact .inr ⟨_, rfl⟩
  · exact .inl ⟨q, dx, _, rfl, hq⟩
  · exact .inr ⟨_, rfl⟩
theorem binM_good (g : Good a H x y n m) (kk : ∀ q H', H q = none → Ex H H' → ModeAt a H' q (opN k n m) → Q (.ref q) H') : rBinM a.f_Mode (fun vs H Q E => spOwn a k (vs ++ []) H Q E) (fun vs H Q E => spOwn a k (vs ++ []) H Q E) E x y H Q := by
  rcases g with ⟨p, rfl, hp, hn, hy⟩ | ⟨q, rfl, hn, rfl, hq, hm⟩
  · obtain ⟨dx, ho⟩ := id hp
    exact .inl ⟨p, dx, _, rfl, ho, opd_right (.inl hy), p, n, y, rfl, hp, hn, .inl ⟨m, hy, kk⟩⟩
  · obtain ⟨dx, ho⟩ := id hq
    exact .inr ⟨_, q, dx, _, rfl, rfl, ho, q, m, .int (n : Nat), rfl, hq, hm, .inl ⟨n, ⟨hn, .inl rfl⟩, fun r H' hr e mr => kk r H' hr e (by rw [opN_comm]; exact mr)⟩⟩
theorem binM_bad (b : BadP a H x y) (told : Told a E H "number") : rBinM a.f_Mode (fun vs H Q E => spOwn a k (vs ++ []) H Q E) (fun vs H Q E => spOwn a k (vs ++ []) H Q E) E x y H Q := by
  rcases b with ⟨p, n, rfl, hp, hn, hy⟩ | ⟨q, m, ⟨i, rfl, hi⟩, rfl, hq, hm⟩
  · obtain ⟨dx, ho⟩ := id hp
    exact .inl ⟨p, dx, _, rfl, ho, opd_right (m := 0) (.inr hy), p, n, y, rfl, hp, hn, .inr ⟨hy, told⟩⟩
  · obtain ⟨dx, ho⟩ := id hq
    exact .inr ⟨i, q, dx, _, rfl, rfl, ho, q, m, .int i, rfl, hq, hm, .inr ⟨⟨i, rfl, hi⟩, told⟩⟩
end
end KC
set_option Elab.async false
set_option linter.all false
set_option maxRecDepth 100000
set_option maxHeartbeats 4000000
namespace KC
open PySem PySem.Spec PyProof.Rows L2 Evl
local macro_rules | `(tactic| walk_at "ev") => `(tactic| repeat' (first | exact ev_c | exact ev_var rfl | exact rv_I0 | refine' rv_I ?_ | refine' rv_eq ?_ | refine' rv_ne ?_ | refine' ev_op ?_ ?_ ?_ | exact ea_nil | refine' ea_cons ?_ ?_ | refine' et_test ?_ | refine' et_B ?_ | refine' et_not ?_ | refine' ev_notV ?_))

open PySem
section
variable {P : Program} {w : World} {K : PySem.W.Frag} {mg : Str → Option Value} {base : Heap} {a : Ads}
theorem ok_invert (T : Txt w K mg a) : FnOk P w K mg base CX0 7 a.f_ModeD_invertD a.d_ModeD_invertD ["self"] (spInv a) := by
  have G_Mode_init : FnOk P w K mg base CX0 5 _ _ _ _ := ok_Mode_init T
  refine T.fn_ModeD_invertD.ok sc_ModeD_invertD (fun vs H Q E h => ?_) (fun cdv A outer s H vs Q E hr h => ?_)
  · obtain ⟨_, _, rfl, _⟩ := h
    rfl
  · obtain ⟨p, n, rfl, ⟨dx, ho⟩, hn, k⟩ := h
    have hrm : Room (5 + 1) _ := hr
    obtain ⟨tm, hm⟩ := T.k_Mode_MOST
    refine ⟨_, (pss_one (ps_ret (pe_make T.mk_Mode G_Mode_init hrm rfl T.mg_Mode (bd_ModeD_initD T) .nil pass0 (pa_cons (pe_op op_sub (ClX.pe_cval (pe_glob (v := .ref a.f_Mode) rfl T.mg_Mode rfl)) (pe_fld (pv 0) rfl)) pa_nil)))), ?_⟩
    exact em_mode (a := a) (n := 511 - n) (ev_is (ev_op (ev_cval ev_c T.r_Mode hm) (ev_fld (ev_var rfl) ho T.c_Mode T.n_number_Mode (by simp [List.lookup]; rfl)) rv_I0) (congrArg V.int (by omega))) (by omega) H (Ex.refl _) _ fun q H2 hq e2 mq => k q H2 hq e2 mq
theorem ok_contains (T : Txt w K mg a) : FnOk P w K mg base (L2.CX P w) 6 a.f_ModeD_containsD a.d_ModeD_containsD ["self", "bit"] (spCont K a) := by
  have G_is_whole_to : FnOk P w K mg base CX0 5 _ _ _ _ := (FnOk.either (ok_is_whole_to T) (ok_is_whole2 T)).mono (by decide)
  have G_number_of : FnOk P w K mg base (L2.CX P w) 5 _ _ _ _ := ok_number_of T
  refine T.fn_ModeD_containsD.okX sc_ModeD_containsD (fun vs H Q E h => ?_) (fun cdv A outer s H vs Q E hr h => ?_)
  · obtain ⟨_, _, _, rfl, _⟩ := h
    rfl
  · obtain ⟨p, n, y, rfl, hp, hn, h⟩ := h
    have hrc : Room 5 _ := hr
    obtain ⟨dx, ho⟩ := id hp
    obtain ⟨tm, hm⟩ := T.k_Mode_MOST
    refine ⟨_, (pss_cons (ps_if (PW.pt (pw_and (pt_not (pt_val (pe_callB call_isi (by rfl) T.b_isinstance PyProof.Rows.boot_isinstance (pa_cons (pv 1) (pa_cons (pe_glob (v := .ref a.f_Mode) rfl T.mg_Mode rfl) pa_nil))))) (pw_and1 (pt_not (pt_val (pe_call G_is_whole_to hrc rfl T.mg_is_whole_to T.fn_is_whole_to.kp (bd_is_whole_to T) .nil pass0 (pa_cons (pv 1) (pa_cons (ClX.pe_cval (pe_glob (v := .ref a.f_Mode) rfl T.mg_Mode rfl)) pa_nil)))))))) (pss_one (ps_ret pe_bl)) pss_nil)
    (pss_cons (ps_set (i := 2) sc_ModeD_containsD.nd rfl (Or.inl rfl) (pe_call G_number_of hrc rfl T.mg_number_of T.fn_number_of.kp (bd_number_of T) .nil (passes_call (takes_of rfl rfl rfl rfl) fun _ _ _ _ h => h) (pa_cons (pv 1) pa_nil)))
    (pss_one (ps_ret (pe_cmpR op_eq (pe_op op_and (pe_fld (pv 0) rfl) (pv 2)) (pv 2) (nomark _)))))), ?_⟩
    have rest : ∀ (m : Nat) (H1 : Hp), Opd a H y m → (∀ H', Ex H H' → Q (.bl (decide (n &&& m = m))) H') → Ex H H1 → tSeq (tAsg (tCall (spNum a) [] E (tCons (tVar 1) tNil)) (gName 2)) (tRet (tOp rEq (tOp (rI0 fun i j => V.int (Builtin.bitAnd i j)) (tFld K (tVar 0) "_number") (tVar 2)) (tVar 2))) { nx := fun _ H' => Q .non H', rt := Q } [some (.ref p), some y, none] H1 := fun m H1 hy k e1 =>
      ⟨y, rfl, y, rfl, .inl ⟨m, hy.mono e1, fun H2 e2 => s_ret (v := .bl (decide (n &&& m = m))) (ev_is (ev_op (ev_op (ev_fld (ev_var rfl) ((e1.trans e2) _ _ ho) T.c_Mode T.n_number_Mode (by simp [List.lookup]; rfl)) (ev_var rfl) rv_I0) (ev_var rfl) (rv_eq rfl)) (congrArg V.bl (decide_eq_decide.mpr ⟨fun z => by injection z with z; exact Int.ofNat.inj z, fun z => by show V.int ((n &&& m : Nat) : Int) = _; rw [z]⟩))) fun H3 e3 => k H3 ((e1.trans e2).trans e3)⟩⟩
    rcases h with ⟨m, hy, k⟩ | ⟨nb, k⟩
    · rcases id hy with ⟨hm5, rfl | ⟨q, rfl, hq⟩⟩
      · refine q_when (b := false) (et_is (et_and (a := true) (b := false) (et_is (et_not (a := false) (et_B (ev_isi (ea_cons (ev_var rfl) (ea_cons ev_c ea_nil)) (.own _) (fun _ _ => .base (.int _)) T.ii_Mode))) rfl) fun _ => et_is (et_not (a := true) (et_B (ev_call (sp := fun vs H Q E => spTrue2 vs H Q E ∨ spW2 K vs H Q E) (dvs := []) (vs := [.int (m : Nat), .int 511]) (ea_cons (ev_var (i := 1) rfl) (ea_cons (ev_cval ev_c T.r_Mode hm) ea_nil)) fun H2 e Q q E => .inl ⟨m, 511, rfl, by omega, by omega, q⟩))) rfl) rfl) (fun z => nomatch z) fun _ H1 e1 => ?_
        exact rest m H1 hy k e1
      · refine q_when (b := false) (et_is (et_and (a := false) (b := true) (et_is (et_not (a := true) (et_B (ev_isi (ea_cons (ev_var rfl) (ea_cons ev_c ea_nil)) (.own _) (fun H' e' => tyx_mode T (hq.mono e')) T.is_Mode))) rfl) fun z => nomatch z) rfl) (fun z => nomatch z) fun _ H1 e1 => ?_
        exact rest m H1 hy k e1
    · rcases nb with ⟨i, rfl, hi⟩ | ⟨t, b1, b2, ty, h1, h2, h3, nm⟩
      · refine q_when (b := true) (et_is (et_and (a := true) (b := true) (et_is (et_not (a := false) (et_B (ev_isi (ea_cons (ev_var rfl) (ea_cons ev_c ea_nil)) (.own _) (fun _ _ => .base (.int _)) T.ii_Mode))) rfl) fun _ => et_is (et_not (a := false) (et_B (ev_call (sp := fun vs H Q E => spTrue2 vs H Q E ∨ spW2 K vs H Q E) (dvs := []) (vs := [.int i, .int 511]) (ea_cons (ev_var (i := 1) rfl) (ea_cons (ev_cval ev_c T.r_Mode hm) ea_nil)) fun H2 e Q q E => .inr ⟨.int i, 511, rfl, .inr ⟨i, rfl, hi⟩, q⟩))) rfl) rfl) (fun _ H1 e1 => s_ret (v := .bl false) ev_c fun H2 e2 => k H2 (e1.trans e2)) fun z => nomatch z
      · refine q_when (b := true) (et_is (et_and (a := true) (b := true) (et_is (et_not (a := false) (et_B (ev_isi (ea_cons (ev_var rfl) (ea_cons ev_c ea_nil)) (.own _) ty nm))) rfl) fun _ => et_is (et_not (a := false) (et_B (ev_call (sp := fun vs H Q E => spTrue2 vs H Q E ∨ spW2 K vs H Q E) (dvs := []) (vs := [y, .int 511]) (ea_cons (ev_var (i := 1) rfl) (ea_cons (ev_cval ev_c T.r_Mode hm) ea_nil)) fun H2 e Q q E => .inr ⟨y, 511, rfl, .inl ⟨t, b1, b2, fun H3 e3 => ty H3 (e.trans e3), h1, h2, h3⟩, q⟩))) rfl) rfl) (fun _ H1 e1 => s_ret (v := .bl false) ev_c fun H2 e2 => k H2 (e1.trans e2)) fun z => nomatch z
theorem ok_put (T : Txt w K mg a) : FnOk P w K mg base (L2.CX P w) 9 a.f__law_put a.d__law_put ["_law_kind", "_law_one", "_law_other"] (spPut a) := by
  have G_or : FnOk P w K mg base (L2.CX P w) 8 _ _ _ _ := (ok_own_or T).mono (by decide)
  have G_ror : FnOk P w K mg base (L2.CX P w) 8 _ _ _ _ := ok_rown_or T
  have G_and : FnOk P w K mg base (L2.CX P w) 8 _ _ _ _ := (ok_own_and T).mono (by decide)
  have G_rand : FnOk P w K mg base (L2.CX P w) 8 _ _ _ _ := ok_rown_and T
  have G_xor : FnOk P w K mg base (L2.CX P w) 8 _ _ _ _ := (ok_own_xor T).mono (by decide)
  have G_rxor : FnOk P w K mg base (L2.CX P w) 8 _ _ _ _ := ok_rown_xor T
  refine T.fn__law_put.okX sc__law_put (fun vs H Q E h => ?_) (fun cdv A outer s H vs Q E hr h => ?_)
  · obtain ⟨_, _, _, rfl, _⟩ := h
    rfl
  · obtain ⟨k, x, y, rfl, hk, h⟩ := h
    have hrc : Room 8 _ := hr
    refine ⟨_, (pss_cons (ps_if (pt_cmpR op_eq (pv 0) pe_int (nomark _)) (pss_one (ps_ret (pe_op (op_binM rfl T.bf_or bi_or (G_or.raw (bd_ModeD_orD T) .nil) (G_ror.raw (bd_ModeD_rorD T) .nil) hrc (passes_call (takes_of rfl rfl rfl rfl) fun _ _ _ _ h => h)) (pv 1) (pv 2)))) pss_nil)
    (pss_cons (ps_if (pt_cmpR op_eq (pv 0) pe_int (nomark _)) (pss_one (ps_ret (pe_op (op_binM rfl T.bf_and bi_and (G_and.raw (bd_ModeD_andD T) .nil) (G_rand.raw (bd_ModeD_randD T) .nil) hrc (passes_call (takes_of rfl rfl rfl rfl) fun _ _ _ _ h => h)) (pv 1) (pv 2)))) pss_nil)
    (pss_one (ps_ret (pe_op (op_binM rfl T.bf_xor bi_xor (G_xor.raw (bd_ModeD_xorD T) .nil) (G_rxor.raw (bd_ModeD_rxorD T) .nil) hrc (passes_call (takes_of rfl rfl rfl rfl) fun _ _ _ _ h => h)) (pv 1) (pv 2)))))), ?_⟩
    have last : ∀ H1, Ex H H1 → rBinM a.f_Mode (fun vs H Q E => spOwn a k (vs ++ []) H Q E) (fun vs H Q E => spOwn a k (vs ++ []) H Q E) E x y H1 Q := fun H1 e1 => by
      rcases h with ⟨n, m, g, kk⟩ | ⟨b, told⟩
      · exact binM_good (g.mono e1) fun q H' hq e mq => kk q H' (fresh_back e1 hq) (e1.trans e) mq
      · exact binM_bad (b.mono e1) (told.back e1)
    rcases (show k = 0 ∨ k = 1 ∨ k = 2 by omega) with rfl | rfl | rfl
    · exact q_when (b := true) (et_test (ev_op (ev_var rfl) ev_c (rv_eq rfl))) (fun _ H1 e1 => ⟨x, rfl, y, rfl, last H1 e1⟩) (fun z => nomatch z)
    · exact q_when (b := false) (et_test (ev_op (ev_var rfl) ev_c (rv_eq rfl))) (fun z => nomatch z) fun _ H1 e1 => q_when (b := true) (et_test (ev_op (ev_var rfl) ev_c (rv_eq rfl))) (fun _ H2 e2 => ⟨x, rfl, y, rfl, last H2 (e1.trans e2)⟩) (fun z => nomatch z)
    · exact q_when (b := false) (et_test (ev_op (ev_var rfl) ev_c (rv_eq rfl))) (fun z => nomatch z) fun _ H1 e1 => q_when (b := false) (et_test (ev_op (ev_var rfl) ev_c (rv_eq rfl))) (fun z => nomatch z) fun _ H2 e2 => ⟨x, rfl, y, rfl, last H2 (e1.trans e2)⟩
theorem ok_putin (T : Txt w K mg a) : FnOk P w K mg base (L2.CX P w) 9 a.f__law_put_in a.d__law_put_in ["_law_kind", "_law_one", "_law_other"] (spPut a) := by
  have G_or : FnOk P w K mg base (L2.CX P w) 8 _ _ _ _ := (ok_own_or T).mono (by decide)
  have G_ror : FnOk P w K mg base (L2.CX P w) 8 _ _ _ _ := ok_rown_or T
  have G_and : FnOk P w K mg base (L2.CX P w) 8 _ _ _ _ := (ok_own_and T).mono (by decide)
  have G_rand : FnOk P w K mg base (L2.CX P w) 8 _ _ _ _ := ok_rown_and T
  have G_xor : FnOk P w K mg base (L2.CX P w) 8 _ _ _ _ := (ok_own_xor T).mono (by decide)
  have G_rxor : FnOk P w K mg base (L2.CX P w) 8 _ _ _ _ := ok_rown_xor T
  refine T.fn__law_put_in.okX sc__law_put_in (fun vs H Q E h => ?_) (fun cdv A outer s H vs Q E hr h => ?_)
  · obtain ⟨_, _, _, rfl, _⟩ := h
    rfl
  · obtain ⟨k, x, y, rfl, hk, h⟩ := h
    have hrc : Room 8 _ := hr
    refine ⟨_, (pss_cons (ps_set (i := 3) sc__law_put_in.nd rfl (Or.inl rfl) (pv 1))
    (pss_cons (ps_if (pt_cmpR op_eq (pv 0) pe_int (nomark _)) (pss_one (ps_aug (i := 3) sc__law_put_in.nd rfl (Or.inl rfl) (pv 2) (ip_binM rfl T.bf_or bi_or (G_or.raw (bd_ModeD_orD T) .nil) (G_ror.raw (bd_ModeD_rorD T) .nil) hrc (passes_call (takes_of rfl rfl rfl rfl) fun _ _ _ _ h => h)))) (pss_one (ps_if (pt_cmpR op_eq (pv 0) pe_int (nomark _)) (pss_one (ps_aug (i := 3) sc__law_put_in.nd rfl (Or.inl rfl) (pv 2) (ip_binM rfl T.bf_and bi_and (G_and.raw (bd_ModeD_andD T) .nil) (G_rand.raw (bd_ModeD_randD T) .nil) hrc (passes_call (takes_of rfl rfl rfl rfl) fun _ _ _ _ h => h)))) (pss_one (ps_aug (i := 3) sc__law_put_in.nd rfl (Or.inl rfl) (pv 2) (ip_binM rfl T.bf_xor bi_xor (G_xor.raw (bd_ModeD_xorD T) .nil) (G_rxor.raw (bd_ModeD_rxorD T) .nil) hrc (passes_call (takes_of rfl rfl rfl rfl) fun _ _ _ _ h => h)))))))
    (pss_one (ps_ret (pv 3))))), ?_⟩
    refine q_asg (v := x) (ev_var rfl) fun H0 e0 => ?_
    have last : ∀ (H1 : Hp) (Q' : VK), Ex H H1 → (∀ z H2, Q z H2 → Q' z H2) → rBinM a.f_Mode (fun vs H Q E => spOwn a k (vs ++ []) H Q E) (fun vs H Q E => spOwn a k (vs ++ []) H Q E) E x y H1 Q' := fun H1 Q' e1 hQ => by
      rcases h with ⟨n, m, g, kk⟩ | ⟨b, told⟩
      · exact binM_good (g.mono e1) fun q H' hq e mq => hQ _ _ (kk q H' (fresh_back e1 hq) (e1.trans e) mq)
      · exact binM_bad (b.mono e1) (told.back e1)
    rcases (show k = 0 ∨ k = 1 ∨ k = 2 by omega) with rfl | rfl | rfl
    · exact q_if (b := true) (et_test (ev_op (ev_var rfl) ev_c (rv_eq rfl))) (fun _ H1 e1 => ⟨x, rfl, y, rfl, last H1 _ (e0.trans e1) fun z H2 q => ⟨z, rfl, q⟩⟩) (fun z => nomatch z)
    · exact q_if (b := false) (et_test (ev_op (ev_var rfl) ev_c (rv_eq rfl))) (fun z => nomatch z) fun _ H1 e1 => s_if (b := true) (et_test (ev_op (ev_var rfl) ev_c (rv_eq rfl))) (fun _ H2 e2 => ⟨x, rfl, y, rfl, last H2 _ ((e0.trans e1).trans e2) fun z H3 q => ⟨z, rfl, q⟩⟩) (fun z => nomatch z)
    · exact q_if (b := false) (et_test (ev_op (ev_var rfl) ev_c (rv_eq rfl))) (fun z => nomatch z) fun _ H1 e1 => s_if (b := false) (et_test (ev_op (ev_var rfl) ev_c (rv_eq rfl))) (fun z => nomatch z) fun _ H2 e2 => ⟨x, rfl, y, rfl, last H2 _ ((e0.trans e1).trans e2) fun z H3 q => ⟨z, rfl, q⟩⟩
theorem ok_bits (T : Txt w K mg a) : FnOk P w K mg base CX0 1 a.f__law_bits a.d__law_bits ["_law_kind", "_law_one", "_law_other"] spBits := by
  refine T.fn__law_bits.ok sc__law_bits (fun vs H Q E h => ?_) (fun cdv A outer s H vs Q E hr h => ?_)
  · obtain ⟨_, _, _, rfl, _⟩ := h
    rfl
  · obtain ⟨k, x, y, rfl, hk, hx, hy, kk⟩ := h
    refine ⟨_, (pss_cons (ps_set (i := 3) sc__law_bits.nd rfl (Or.inl rfl) pe_int)
    (pss_cons (ps_for PassesOwn.never rfl (pi_range1 rfl T.b_range (pa_cons pe_int pa_nil)) (pg_name (i := 4) sc__law_bits.nd rfl (Or.inl rfl)) (pss_cons (ps_set (i := 5) sc__law_bits.nd rfl (Or.inl rfl) (pe_op op_mod (pe_callTy call_int1 (by rfl) T.b_int (by decide +kernel) (pa_cons (pe_op op_shr (pv 1) (pv 4)) pa_nil)) pe_int))
    (pss_cons (ps_set (i := 6) sc__law_bits.nd rfl (Or.inl rfl) (pe_op op_mod (pe_callTy call_int1 (by rfl) T.b_int (by decide +kernel) (pa_cons (pe_op op_shr (pv 2) (pv 4)) pa_nil)) pe_int))
    (pss_one (ps_if (PW.pt (pw_or (PW.pt (pw_and (pt_cmpR op_eq (pv 0) pe_int (nomark _)) (pw_and1 (pt_cmpR op_gt (pe_op op_add (pv 5) (pv 6)) pe_int (nomark _))))) (pw_or (PW.pt (pw_and (pt_cmpR op_eq (pv 0) pe_int (nomark _)) (pw_and1 (pt_cmpR op_eq (pe_op op_add (pv 5) (pv 6)) pe_int (nomark _))))) (pw_or1 (PW.pt (pw_and (pt_cmpR op_eq (pv 0) pe_int (nomark _)) (pw_and1 (pt_cmpR op_eq (pe_op op_add (pv 5) (pv 6)) pe_int (nomark _))))))))) (pss_one (ps_set (i := 3) sc__law_bits.nd rfl (Or.inl rfl) (pe_op op_add (pv 3) (pe_op op_shl pe_int (pv 4))))) pss_nil)))))
    (pss_one (ps_ret (pv 3))))), ?_⟩
    refine q_asg (v := .int 0) ev_c fun H1 e1 => ?_
    refine q_forR1 (n := 9) (ea_cons ev_c ea_nil) (by decide) (fun j σ' H' => ∃ o4 o5 o6, σ' = [some (.int (k : Nat)), some (.int (x : Nat)), some (.int (y : Nat)), some (.int (sumB k x y j : Nat)), o4, o5, o6] ∧ Ex H H') (fun H2 e2 => ⟨_, _, _, rfl, e1.trans e2⟩) (fun j σ' H2 hj q => ?_) (fun σ' H2 q => ?_)
    · obtain ⟨o4, o5, o6, rfl, e2⟩ := q
      have hj9 : j < 9 := by omega
      have pj : (2 : Int) ^ ((j : Nat) : Int).toNat = ((2 ^ j : Nat) : Int) := by rw [Int.toNat_natCast]; exact (Int.natCast_pow 2 j).symm
      refine q_asg (v := .int (x / 2 ^ j % 2 : Nat)) (ev_is (ev_op (ev_int (ev_op (ev_var rfl) (ev_var rfl) (rv_I (by omega)))) ev_c (rv_I (by decide))) (congrArg V.int (by rw [pj]; omega))) fun H3 e3 => ?_
      refine q_asg (v := .int (y / 2 ^ j % 2 : Nat)) (ev_is (ev_op (ev_int (ev_op (ev_var rfl) (ev_var rfl) (rv_I (by omega)))) ev_c (rv_I (by decide))) (congrArg V.int (by rw [pj]; omega))) fun H4 e4 => ?_
      refine s_ifAsg (b := hitB k x y j) (v := .int (sumB k x y (j + 1) : Nat)) (et_is (et_or (et_and (et_test (ev_op (ev_var rfl) ev_c (rv_eq rfl))) fun _ => et_test (ev_op (ev_op (ev_var rfl) (ev_var rfl) rv_I0) ev_c rv_I0)) fun _ => et_or (et_and (et_test (ev_op (ev_var rfl) ev_c (rv_eq rfl))) fun _ => et_test (ev_op (ev_op (ev_var rfl) (ev_var rfl) rv_I0) ev_c (rv_eq rfl))) fun _ => et_and (et_test (ev_op (ev_var rfl) ev_c (rv_eq rfl))) fun _ => et_test (ev_op (ev_op (ev_var rfl) (ev_var rfl) rv_I0) ev_c (rv_eq rfl))) ?eqn) (fun hb => ev_is (ev_op (ev_var rfl) (ev_op ev_c (ev_var rfl) (rv_I ⟨by omega, by omega, by decide⟩)) rv_I0) (congrArg V.int ?val)) (fun hb => ?same) fun H5 e5 => ⟨_, _, _, rfl, ((e2.trans e3).trans e4).trans e5⟩
      case eqn =>
        unfold hitB
        have c1 : ∀ u v : Nat, decide (V.int (u : Nat) = V.int (v : Nat)) = decide (u = v) := fun u v => decide_eq_decide.mpr ⟨fun z => by injection z with z; omega, fun z => by rw [z]⟩
        have c2 : ∀ u v c : Nat, decide (V.int ((u : Int) + (v : Int)) = V.int (c : Nat)) = decide (u + v = c) := fun u v c => decide_eq_decide.mpr ⟨fun z => by injection z with z; omega, fun z => by rw [← z]; rfl⟩
        have c3 : ∀ u v : Nat, decide ((u : Int) + (v : Int) > 0) = decide (0 < u + v) := fun u v => decide_eq_decide.mpr ⟨fun z => by omega, fun z => by omega⟩
        exact congr (congrArg _ (congr (congrArg _ (c1 k 0)) (c3 _ _))) (congr (congrArg _ (congr (congrArg _ (c1 k 1)) (c2 _ _ 2))) (congr (congrArg _ (c1 k 2)) (c2 _ _ 1)))
      case val =>
        show _ = ((sumB k x y j + (if hitB k x y j = true then 2 ^ j else 0) : Nat) : Int)
        rw [if_pos hb, pj]
        omega
      case same =>
        have : sumB k x y (j + 1) = sumB k x y j := by
          show sumB k x y j + (if hitB k x y j = true then 2 ^ j else 0) = _
          rw [if_neg (by rw [hb]; decide), Nat.add_zero]
        rw [this]
        rfl
    · obtain ⟨o4, o5, o6, rfl, e2⟩ := q
      exact s_ret (v := .int (opN k x y : Nat)) (ev_is (ev_var rfl) (congrArg (fun (m : Nat) => V.int (m : Int)) (sum_is hk hx hy))) fun H3 e3 => kk H3 (e2.trans e3)
theorem ok_is_mode (T : Txt w K mg a) : FnOk P w K mg base CX0 4 a.f__law_is_mode a.d__law_is_mode ["_law_found", "_law_number"] (spIsMode a) := by
  have G__law_same : FnOk P w K mg base CX0 3 _ _ _ (spSame 0) := (show FnOk P w K mg base CX0 1 _ _ _ (spSame 0) from ok_sameG T 1).mono (by decide)
  have G_Mode_number : FnOk P w K mg base CX0 2 _ _ _ _ := (ok_Mode_number T).mono (by decide)
  refine T.fn__law_is_mode.ok sc__law_is_mode (fun vs H Q E h => ?_) (fun cdv A outer s H vs Q E hr h => ?_)
  · obtain ⟨_, _, rfl, _⟩ := h
    rfl
  · obtain ⟨q, n, rfl, hq, k⟩ := h
    have hrc : Room 3 _ := hr
    have hrm : Room (2 + 1) _ := hr
    obtain ⟨dx, ho⟩ := id hq
    refine ⟨_, (pss_one (ps_ret (pe_and (pe_callB call_isi (by rfl) T.b_isinstance PyProof.Rows.boot_isinstance (pa_cons (pv 0) (pa_cons (pe_glob (v := .ref a.f_Mode) rfl T.mg_Mode rfl) pa_nil))) (pe_one (pe_call G__law_same hrc rfl T.mg__law_same T.fn__law_same.kp (bd__law_same T) .nil pass0 (pa_cons (pe_prop (pv 0) T.c_Mode T.p_Mode_number (G_Mode_number) hrm (bd_Mode_number T) .nil pass0 rfl) (pa_cons (pv 1) pa_nil))))))), ?_⟩
    exact s_ret (v := .bl true) (ev_andV (a := true) (ev_isi (ea_cons (ev_var rfl) (ea_cons ev_c ea_nil)) (.own _) (fun H' e' => tyx_mode T (hq.mono e')) T.is_Mode) fun _ => ev_call (sp := spSame 0) (dvs := []) (vs := [.int (n : Nat), .int (n : Nat)]) (ea_cons (ev_prop (ev_var rfl) ho (spv_get (v := .int (n : Nat)) ho (by simp [List.lookup]))) (ea_cons (ev_var rfl) ea_nil)) fun H1 e1 Q1 q1 E1 => ⟨_, _, rfl, .int 0 _, q1⟩) fun H1 e1 => k H1 e1
end
end KC
set_option Elab.async false
set_option linter.all false
set_option maxRecDepth 100000
set_option maxHeartbeats 4000000
namespace KC
open PySem PySem.Spec PyProof.Rows L2 Evl
local macro_rules | `(tactic| walk_at "ev") => `(tactic| repeat' (first | exact ev_c | exact ev_var rfl | exact rv_I0 | refine' rv_I ?_ | refine' rv_eq ?_ | refine' rv_ne ?_ | refine' ev_op ?_ ?_ ?_ | exact ea_nil | refine' ea_cons ?_ ?_ | refine' et_test ?_ | refine' et_B ?_ | refine' et_not ?_ | refine' ev_notV ?_))

open PySem LamX
abbrev qR : Str := "_law_right" ++ ".<locals>." ++ "<lambda>"
theorem tabs_uR {a : Ads} : ∀ p ∈ [(a.PR, qR)], p.1 = a.PR → p.2 = qR := fun p m _ => by rw [List.mem_singleton.mp m]
theorem BadP.sd {a : Ads} {H H' : Hp} {x y : V} (h : BadP a H x y) (e : Sd H H') : BadP a H' x y := h.imp (fun ⟨p, n, r, mp, hn, o⟩ => ⟨p, n, r, mp.sd e, hn, o⟩) fun ⟨q, m, b, r, mq, hm⟩ => ⟨q, m, b, r, mq.sd e, hm⟩
section
variable {K : PySem.W.Frag} {a : Ads} {σ : L2.St} {H : Hp} {T : List (Addr × Str)} {i j l : Nat} {n m k : Nat} {x y : V} {Q : VK} {tk tx ty te tn : TE} {E : XK} {v : V}
theorem heard_put (tabs : Tabs T H) (hk : k < 3) (h0 : σ[0]? = some (some (.int (k : Nat)))) (hi : σ[i]? = some (some x)) (hj : σ[j]? = some (some y)) (bad : BadP a H x y)
    (kk : ∀ t H', ExtN H H' → Tabs T H' → H' t = some (.tup [.str "mode", .str "number"]) → Q (.ref t) H') : tLam T (THeard a) (fun E => tCall (spPut a) [] E (tCons (tVar 0) (tCons (tVar i) (tCons (tVar j) tNil)))) σ H Q :=
  ⟨tabs, fun H1 eN T1 => ⟨_, h0, x, hi, y, hj, k, x, y, rfl, hk, .inr ⟨bad.sd (Sd.ofN eN), fun d H' hd e' h' => ⟨rfl, d, "number", rfl, h', fun t H'' ht e'' h'' => kk t H'' (eN.trans (ExtN.of (e'.trans e''))) (tabs_keep T1 (e'.trans e'')) h''⟩⟩⟩⟩
theorem em_put (h1 : Ev tk σ H (.int (k : Nat))) (h2 : Ev tx σ H x) (h3 : Ev ty σ H y) (hk : k < 3) (g : Good a H x y n m) : EvM a (tCall (spPut a) [] E (tCons tk (tCons tx (tCons ty tNil)))) σ H (opN k n m) := fun H1 e Q q =>
  (ea_cons h1 (ea_cons h2 (ea_cons h3 ea_nil)) : EvA _ σ H [.int (k : Nat), x, y]) H1 e _ fun H2 e2 => ⟨k, x, y, rfl, hk, .inl ⟨n, m, g.mono (e.trans e2), fun p H3 hp e3 mp => q p H3 (fresh_back e2 hp) (e2.trans e3) mp⟩⟩
theorem ev_isMode (h1 : EvM a te σ H n) (h2 : Ev tn σ H (.int (n : Nat))) : Ev (tCall (spIsMode a) [] E (tCons te (tCons tn tNil))) σ H (.bl true) := fun H1 e Q q =>
  h1 H1 e _ fun p H2 hp e2 mp => h2 H2 (e.trans e2) _ fun H3 e3 => ⟨p, n, rfl, mp.mono e3, fun H4 e4 => q H4 ((e2.trans e3).trans e4)⟩
theorem ev_isModeV {p : Addr} (h1 : Ev te σ H (.ref p)) (mp : ModeAt a H p n) (h2 : Ev tn σ H (.int (n : Nat))) : Ev (tCall (spIsMode a) [] E (tCons te (tCons tn tNil))) σ H (.bl true) := fun H1 e Q q =>
  h1 H1 e _ fun H2 e2 => h2 H2 (e.trans e2) _ fun H3 e3 => ⟨p, n, rfl, mp.mono ((e.trans e2).trans e3), fun H4 e4 => q H4 ((e2.trans e3).trans e4)⟩
theorem q_asgM {i : Nat} {D : Ends} {tz : TS} (h : EvM a te σ H n) (k : ∀ m H1, Ex H H1 → ModeAt a H1 m n → tz D (σ.set i (some (.ref m))) H1) : tSeq (tAsg te (gName i)) tz D σ H := h H (Ex.refl H) _ fun m H1 _ e hm => k m H1 e hm
theorem q_for2 {t1 t2 : TE} {g : TG} {tu tz : TS} {D : Ends} (h1 : EvM a t1 σ H n) (h2 : Ev t2 σ H y) (k : ∀ p l H1, Ex H H1 → ModeAt a H1 p n → H1 l = some (.lst [.ref p, y]) → tSeq (tFor (iList K (tC (.ref l))) g tu) tz D σ H1) : tSeq (tFor (iList K (tLst (tCons t1 (tCons t2 tNil)))) g tu) tz D σ H :=
  h1 H (Ex.refl H) _ fun p H1 _ e1 m1 => h2 H1 e1 _ fun H2 e2 => ⟨by show 2 ≤ sizeLine; decide, fun l hl => k p l _ ((e1.trans e2).trans (Ex.new hl)) (m1.mono (e2.trans (Ex.new hl))) upd_same⟩
theorem em_is (h : EvM a te σ H n) (e : n = m) : EvM a te σ H m := e ▸ h
end
def badL (y : Nat) : List V := [.int 512, .int (-1), .int (10 ^ (30 : Int).toNat), .int (512 + (y : Nat))]
theorem bad_all {y i : Nat} {v : V} (h : (badL y)[i]? = some v) : BadI v := by
  match i, h with
  | 0, h => cases h; exact ⟨_, rfl, .inr (by decide)⟩
  | 1, h => cases h; exact ⟨_, rfl, .inl (by decide)⟩
  | 2, h => cases h; exact ⟨_, rfl, .inr (by decide)⟩
  | 3, h => cases h; exact ⟨_, rfl, .inr (by omega)⟩
/-- a list that is new since H1 grows -/
theorem ext_app {H H1 H2 : Hp} {l : Addr} {ys : List V} (e1 : ExtN H H1) (hl : H1 l = none) (e2 : ExtN H H2) : ExtN H (upd H2 l (.lst ys)) := fun b o hb nt => by
  have ne : b ≠ l := fun z => by
    rw [z] at hb
    have := e1 _ _ hb nt
    rw [hl] at this
    cases this
  rw [upd_ne ne]
  exact e2 _ _ hb nt
theorem mode_app {a : Ads} {H : Hp} {p l : Addr} {n : Nat} {xs ys : List V} (m : ModeAt a H p n) (hl : H l = some (.lst xs)) : ModeAt a (upd H l (.lst ys)) p n := by
  obtain ⟨dx, h⟩ := m
  exact ⟨dx, by rw [upd_ne (ne_of h hl fun z => nomatch z)]; exact h⟩
theorem tup_app {H : Hp} {p l : Addr} {zs xs ys : List V} (m : H p = some (.tup zs)) (hl : H l = some (.lst xs)) : upd H l (.lst ys) p = some (.tup zs) := by
  rw [upd_ne (ne_of m hl fun z => nomatch z)]
  exact m
def spRight (a : Ads) : Sp := fun vs H Q _ => ∃ k x y : Nat, vs = [.int (k : Nat), .int (x : Nat), .int (y : Nat)] ∧ k < 3 ∧ x < 512 ∧ y < 512 ∧ Tabs [(a.PR, qR)] H ∧ ∀ H', ExtN H H' → Tabs [(a.PR, qR)] H' → Q (.bl true) H'
theorem sd_pair {H : Hp} {t q : Addr} {s1 s2 : Str} {n : Nat} (h1 : H t = some (.tup [.str s1, .str s2])) (h2 : H q = some (.tup [.str s1, .str s2])) : SD H (n + 1) (.ref t) (.ref q) := .seq true h1 h2 rfl (by show 2 ≤ 1000; decide) fun i x y hx hy => by
  rw [hx] at hy
  cases hy
  match i, hx with
  | 0, hx => cases hx; exact .str _ _
  | 1, hx => cases hx; exact .str _ _
section
variable {P : Program} {w : World} {K : PySem.W.Frag} {mg : Str → Option Value} {base : Heap} {a : Ads}
theorem ok_right (T : Txt w K mg a) (TBR : TabB base mg a.cR a.PR) : FnOk P w K mg base CX0 12 a.f__law_right a.d__law_right ["_law_kind", "_law_a", "_law_b"] (spRight a) := by
  obtain ⟨ocR, odR, kVR, docR, pmR, anR, ctR, oslR, eR, lkR⟩ := T.cr
  rw [eR] at lkR
  rw [eR]
  have G__law_bits : FnOk P w K mg base CX0 11 _ _ _ _ := (ok_bits T).mono (by decide)
  have G__law_is_mode : FnOk P w K mg base CX0 11 _ _ _ _ := (ok_is_mode T).mono (by decide)
  have G__law_put : FnOk P w K mg base (L2.CX P w) 11 _ _ _ _ := (ok_put T).mono (by decide)
  have G__law_put_in : FnOk P w K mg base (L2.CX P w) 11 _ _ _ _ := (ok_putin T).mono (by decide)
  have G__law_putL : FnOk P w K mg base (L2.CX P w) 9 _ _ _ _ := ok_put T
  have G__law_put_inL : FnOk P w K mg base (L2.CX P w) 9 _ _ _ _ := ok_putin T
  have G__law_same : FnOk P w K mg base CX0 11 _ _ _ (spSame 2) := (show FnOk P w K mg base CX0 3 _ _ _ (spSame 2) from ok_sameG T 3).mono (by decide)
  have G_Mode_init : FnOk P w K mg base CX0 10 _ _ _ _ := (ok_Mode_init T).mono (by decide)
  refine fn_of lkR T.cr_code sc__law_right (fun vs H Q E h => ?_) fun A outer s H vs Q E hr h => ?_
  · obtain ⟨_, _, _, rfl, _⟩ := h
    rfl
  · obtain ⟨k, x, y, rfl, hk, hx, hy, tab, kk⟩ := h
    have hrc : Room 11 _ := hr
    have hrm : Room (10 + 1) _ := hr
    obtain ⟨ocH, odH, kVH, docH, pmH, anH, cdvH, ctH, oslH, eH, lkH, hcdH⟩ := id T.fn__law_heard.ex
    have hbH := bd__law_heard T
    rw [eH] at lkH hbH
    refine ⟨_, (show PSs (cxOf CX0 P w K mg base n__law_right "_law_right" (defScope s__law_right) a.f__law_right (.ref a.cR) A outer s H E).nox (defBody s__law_right) _ from (pss_cons (ps_set (i := 3) sc__law_right.nd rfl (Or.inl rfl) (pe_call G__law_bits hrc rfl T.mg__law_bits T.fn__law_bits.kp (bd__law_bits T) .nil pass0 (pa_cons (pv 0) (pa_cons (pv 1) (pa_cons (pv 2) pa_nil)))))
    (pss_cons (ps_set (i := 7) sc__law_right.nd rfl (Or.inr rfl) (pe_make T.mk_Mode G_Mode_init hrm rfl T.mg_Mode (bd_ModeD_initD T) .nil pass0 (pa_cons (pv 1) pa_nil)))
    (pss_cons (ps_for PassesOwn.never rfl (pi_list (pe_lst (pa_cons (pe_make T.mk_Mode G_Mode_init hrm rfl T.mg_Mode (bd_ModeD_initD T) .nil pass0 (pa_cons (pv 2) pa_nil)) (pa_cons (pv 2) pa_nil)))) (pg_name (i := 4) sc__law_right.nd rfl (Or.inl rfl)) (pss_cons (ps_if (PW.pt (pw_or (pt_not (pt_val (pe_call G__law_is_mode hrc rfl T.mg__law_is_mode T.fn__law_is_mode.kp (bd__law_is_mode T) .nil pass0 (pa_cons (pe_call G__law_put hrc rfl T.mg__law_put T.fn__law_put.kp (bd__law_put T) .nil passL (pa_cons (pv 0) (pa_cons (pv 7) (pa_cons (pv 4) pa_nil)))) (pa_cons (pv 3) pa_nil))))) (pw_or1 (pt_not (pt_val (pe_call G__law_is_mode hrc rfl T.mg__law_is_mode T.fn__law_is_mode.kp (bd__law_is_mode T) .nil pass0 (pa_cons (pe_call G__law_put hrc rfl T.mg__law_put T.fn__law_put.kp (bd__law_put T) .nil passL (pa_cons (pv 0) (pa_cons (pv 4) (pa_cons (pv 7) pa_nil)))) (pa_cons (pv 3) pa_nil)))))))) (pss_one (ps_ret pe_bl)) pss_nil)
    (pss_one (ps_if (PW.pt (pw_or (pt_not (pt_val (pe_call G__law_is_mode hrc rfl T.mg__law_is_mode T.fn__law_is_mode.kp (bd__law_is_mode T) .nil pass0 (pa_cons (pe_call G__law_put_in hrc rfl T.mg__law_put_in T.fn__law_put_in.kp (bd__law_put_in T) .nil passL (pa_cons (pv 0) (pa_cons (pv 7) (pa_cons (pv 4) pa_nil)))) (pa_cons (pv 3) pa_nil))))) (pw_or1 (pt_not (pt_val (pe_call G__law_is_mode hrc rfl T.mg__law_is_mode T.fn__law_is_mode.kp (bd__law_is_mode T) .nil pass0 (pa_cons (pv 7) (pa_cons (pv 1) pa_nil)))))))) (pss_one (ps_ret pe_bl)) pss_nil))))
    (pss_cons (ps_if (pt_not (pt_val (pe_call G__law_is_mode hrc rfl T.mg__law_is_mode T.fn__law_is_mode.kp (bd__law_is_mode T) .nil pass0 (pa_cons (pe_call G__law_put_in hrc rfl T.mg__law_put_in T.fn__law_put_in.kp (bd__law_put_in T) .nil passL (pa_cons (pv 0) (pa_cons (pv 2) (pa_cons (pv 7) pa_nil)))) (pa_cons (pv 3) pa_nil))))) (pss_one (ps_ret pe_bl)) pss_nil)
    (pss_cons (ps_for PassesOwn.never rfl (pi_list (pe_lst (pa_cons pe_int (pa_cons (pe_un un_neg pe_int) (pa_cons (pe_op op_pow pe_int pe_int) (pa_cons (pe_op op_add pe_int (pv 2)) pa_nil)))))) (pg_name (i := 6) sc__law_right.nd rfl (Or.inr rfl)) (pss_cons (ps_set (i := 5) sc__law_right.nd rfl (Or.inl rfl) (pe_lst (pa_cons (pe_lamcall (T := [(a.PR, qR)]) (TT := THeard a) rfl T.mg__law_heard T.fn__law_heard.kp lkH hcdH hbH sc__law_heard rfl (Or.inl rfl) (heard_gives T (show A.units + 3 + 100 < cLine by have := hr.un; have e : A.units + 3 + 16 * 11 + 200 < cLine := this; omega)) TBR rfl (List.mem_singleton.mpr rfl) tabs_uR (k := 9) hrc (lamS_by (show lamSB (defScope s__law_right) _ = true by decide +kernel)) rfl (fun _ _ _ _ _ => rfl) (fun _ _ _ _ _ _ _ hr2 => (pe_call G__law_putL hr2 rfl T.mg__law_put T.fn__law_put.kp (bd__law_put T) .nil (passes_call (takes_of rfl rfl rfl rfl) fun _ _ _ _ h => h) (pa_cons (pv 0) (pa_cons (pv 7) (pa_cons (pv 6) pa_nil)))))) pa_nil)))
    (pss_cons (ps_expr (pe_bm PySem.F.plainAttrs_list PySem.F.slot_list_append PySem.F.type_list_append mt_append (pv 5) (pa_cons (pe_lamcall (T := [(a.PR, qR)]) (TT := THeard a) rfl T.mg__law_heard T.fn__law_heard.kp lkH hcdH hbH sc__law_heard rfl (Or.inl rfl) (heard_gives T (show A.units + 3 + 100 < cLine by have := hr.un; have e : A.units + 3 + 16 * 11 + 200 < cLine := this; omega)) TBR rfl (List.mem_singleton.mpr rfl) tabs_uR (k := 9) hrc (lamS_by (show lamSB (defScope s__law_right) _ = true by decide +kernel)) rfl (fun _ _ _ _ _ => rfl) (fun _ _ _ _ _ _ _ hr2 => (pe_call G__law_putL hr2 rfl T.mg__law_put T.fn__law_put.kp (bd__law_put T) .nil (passes_call (takes_of rfl rfl rfl rfl) fun _ _ _ _ h => h) (pa_cons (pv 0) (pa_cons (pv 6) (pa_cons (pv 7) pa_nil)))))) pa_nil)))
    (pss_cons (ps_expr (pe_bm PySem.F.plainAttrs_list PySem.F.slot_list_append PySem.F.type_list_append mt_append (pv 5) (pa_cons (pe_lamcall (T := [(a.PR, qR)]) (TT := THeard a) rfl T.mg__law_heard T.fn__law_heard.kp lkH hcdH hbH sc__law_heard rfl (Or.inl rfl) (heard_gives T (show A.units + 3 + 100 < cLine by have := hr.un; have e : A.units + 3 + 16 * 11 + 200 < cLine := this; omega)) TBR rfl (List.mem_singleton.mpr rfl) tabs_uR (k := 9) hrc (lamS_by (show lamSB (defScope s__law_right) _ = true by decide +kernel)) rfl (fun _ _ _ _ _ => rfl) (fun _ _ _ _ _ _ _ hr2 => (pe_call G__law_put_inL hr2 rfl T.mg__law_put_in T.fn__law_put_in.kp (bd__law_put_in T) .nil (passes_call (takes_of rfl rfl rfl rfl) fun _ _ _ _ h => h) (pa_cons (pv 0) (pa_cons (pv 7) (pa_cons (pv 6) pa_nil)))))) pa_nil)))
    (pss_one (ps_if (pt_not (pt_val (pe_call G__law_same hrc rfl T.mg__law_same T.fn__law_same.kp (bd__law_same T) .nil pass0 (pa_cons (pv 5) (pa_cons (pe_op op_rep (pe_lst (pa_cons (pe_tup (pa_cons pe_str (pa_cons pe_str pa_nil))) pa_nil)) pe_int) pa_nil))))) (pss_one (ps_ret pe_bl)) pss_nil))))))
    (pss_one (ps_ret pe_bl)))))))).nox, ?_⟩
    refine q_asg (v := .int (opN k x y : Nat)) (ev_call (vs := [.int (k : Nat), .int (x : Nat), .int (y : Nat)]) (ea_cons (ev_var rfl) (ea_cons (ev_var rfl) (ea_cons (ev_var rfl) ea_nil))) fun H1 e Q q E => ⟨k, x, y, rfl, hk, hx, hy, q⟩) fun H1 e1 => ?_
    refine q_asgM (a := a) (n := x) (em_mode (ev_var rfl) hx) fun mo H2 e2 hmo => ?_
    refine q_for2 (K := K) (a := a) (n := y) (em_mode (ev_var rfl) hy) (ev_var rfl) fun mb l H4 e34 hmb4 hl4 => ?_
    have e04 := (e1.trans e2).trans e34
    have hmo4 := hmo.mono e34
    refine q_forLn (K := K) (xs := [.ref mb, .int (y : Nat)]) ev_c (sq_of hl4) (fun i σ' H' => ∃ o4 o5 o6, σ' = [some (.int (k : Nat)), some (.int (x : Nat)), some (.int (y : Nat)), some (.int (opN k x y : Nat)), o4, o5, o6, some (.ref mo)] ∧ Ex H4 H') (fun H5 e5 => ⟨_, _, _, rfl, e5⟩) (fun i σ' H' _ q => by
      obtain ⟨_, _, _, _, e⟩ := q
      exact sq_of (e _ _ hl4)) (fun i v σ' H5 hv q => ?_) (fun σ' H5 q => ?_)
    · obtain ⟨o4, o5, o6, rfl, e5⟩ := q
      have hmo5 := hmo4.mono e5
      have hmb5 := hmb4.mono e5
      have ov : Opd a H5 v y ∧ Good a H5 v (.ref mo) y x := by
        match i, hv with
        | 0, hv =>
          cases hv
          exact ⟨⟨hy, .inr ⟨mb, rfl, hmb5⟩⟩, .inl ⟨mb, rfl, hmb5, hy, hx, .inr ⟨mo, rfl, hmo5⟩⟩⟩
        | 1, hv =>
          cases hv
          exact ⟨⟨hy, .inl rfl⟩, .inr ⟨mo, rfl, hy, rfl, hmo5, hx⟩⟩
      have g1 : Good a H5 (.ref mo) v x y := .inl ⟨mo, rfl, hmo5, hx, ov.1⟩
      refine q_when (b := false) (et_is (et_or (a := false) (et_is (et_not (a := true) (et_B (ev_isMode (a := a) (n := opN k x y) (em_put (ev_var rfl) (ev_var rfl) (ev_var rfl) hk g1) (ev_var rfl)))) rfl) fun _ => et_is (et_not (a := true) (et_B (ev_isMode (a := a) (n := opN k x y) (em_is (em_put (ev_var rfl) (ev_var rfl) (ev_var rfl) hk ov.2) (opN_comm k y x)) (ev_var rfl)))) rfl) rfl) (fun z => nomatch z) fun _ H6 e6 => ?_
      refine s_when (b := false) (et_is (et_or (a := false) (et_is (et_not (a := true) (et_B (ev_isMode (a := a) (n := opN k x y) (em_put (ev_var rfl) (ev_var rfl) (ev_var rfl) hk (g1.mono e6)) (ev_var rfl)))) rfl) fun _ => et_is (et_not (a := true) (et_B (ev_isModeV (a := a) (n := x) (ev_var rfl) (hmo5.mono e6) (ev_var rfl)))) rfl) rfl) (fun z => nomatch z) fun _ H7 e7 => ?_
      exact ⟨_, _, _, rfl, (e5.trans e6).trans e7⟩
    · obtain ⟨o4, o5, o6, rfl, e5⟩ := q
      have hmo5 := hmo4.mono e5
      have e05 := e04.trans e5
      refine q_when (b := false) (et_not (a := true) (et_B (ev_isMode (a := a) (n := opN k x y) (em_is (em_put (a := a) (n := y) (m := x) (ev_var rfl) (ev_var rfl) (ev_var rfl) hk (.inr ⟨mo, rfl, hy, rfl, hmo5, hx⟩)) (opN_comm k y x)) (ev_var rfl)))) (fun z => nomatch z) fun _ H6 e6 => ?_
      refine q_forNLn (K := K) (xs := badL y) (el_lst (vs := badL y) (ea_cons ev_c (ea_cons (ev_un ev_c ru_neg) (ea_cons (ev_op ev_c ev_c (rv_I ⟨by decide, by decide, by decide⟩)) (ea_cons (ev_op ev_c (ev_var rfl) rv_I0) ea_nil)))) (by show 4 ≤ 100000; decide)) (fun pb i σ' H' => ∃ o4 o5 o6, σ' = [some (.int (k : Nat)), some (.int (x : Nat)), some (.int (y : Nat)), some (.int (opN k x y : Nat)), o4, o5, o6, some (.ref mo)] ∧ H' pb = some (.lst (badL y)) ∧ ModeAt a H' mo x ∧ Tabs [(a.PR, qR)] H' ∧ ExtN H H') (fun pb H7 _ e7 h7 => ⟨_, _, _, rfl, h7, (hmo5.mono e6).mono e7, tabs_keep tab ((e05.trans e6).trans e7), ExtN.of ((e05.trans e6).trans e7)⟩) (fun pb i σ' H' _ q => by
        obtain ⟨_, _, _, _, h, _⟩ := q
        exact sq_of h) (fun pb i v σ' H7 hv q => ?_) (fun pb σ' H7 q => ?_)
      · obtain ⟨o4, o5, o6, rfl, hpb, hmo7, tab7, e07⟩ := q
        have bv := bad_all hv
        refine heard_put (a := a) (i := 7) (j := 6) tab7 hk rfl rfl rfl (.inl ⟨mo, x, rfl, hmo7, hx, bv⟩) fun t1 H8 e8 tab8 ht1 => ⟨by show 1 ≤ sizeLine; decide, fun ll hll => ?_⟩
        have pl : pb ≠ ll := ne_of_none (e8 _ _ hpb (fun _ z => nomatch z)) hll
        have el := Ex.new hll (o := .lst [.ref t1])
        have e08 := e07.trans e8
        have hll9 : upd H8 ll (.lst [.ref t1]) ll = some (.lst [.ref t1]) := upd_same
        have ht1 := el _ _ ht1
        have hpb9 := el _ _ (e8 _ _ hpb (fun _ z => nomatch z))
        have hmo9 := (hmo7.sd (Sd.ofN e8)).mono el
        have tab9 := tabs_keep tab8 el
        have e09 := e08.trans (ExtN.of el)
        generalize upd H8 ll (.lst [.ref t1]) = H9 at hll9 ht1 hpb9 hmo9 tab9 e09
        refine ⟨.ref ll, rfl, .inl ⟨rfl, _, sq_of hll9⟩, heard_put (a := a) (i := 6) (j := 7) tab9 hk rfl rfl rfl (.inr ⟨mo, x, bv, rfl, hmo9, hx⟩) fun t2 H10 e10 tab10 ht2 => ⟨ll, [.ref t1], .ref t2, rfl, rfl, e10 _ _ hll9 (fun _ z => nomatch z), by show 1 < sizeLine; decide, ?_⟩⟩
        have hll10 := e10 _ _ hll9 (fun _ z => nomatch z)
        have ht1 := tup_app (ys := [.ref t1] ++ [.ref t2]) (e10 _ _ ht1 (fun _ z => nomatch z)) hll10
        have ht2 := tup_app (ys := [.ref t1] ++ [.ref t2]) ht2 hll10
        have hpb11 : upd H10 ll (.lst ([.ref t1] ++ [.ref t2])) pb = some (.lst (badL y)) := by rw [upd_ne pl]; exact e10 _ _ hpb9 (fun _ z => nomatch z)
        have hmo11 := mode_app (ys := [.ref t1] ++ [.ref t2]) (hmo9.sd (Sd.ofN e10)) hll10
        have tab11 := tab_app (ys := [.ref t1] ++ [.ref t2]) tab10 hll10
        have e011 := ext_app (ys := [.ref t1] ++ [.ref t2]) e08 hll (e09.trans e10)
        have hll11 : upd H10 ll (.lst ([.ref t1] ++ [.ref t2])) ll = some (.lst ([.ref t1] ++ [.ref t2])) := upd_same
        generalize upd H10 ll (.lst ([.ref t1] ++ [.ref t2])) = H11 at ht1 ht2 hpb11 hmo11 tab11 e011 hll11
        refine ⟨.ref ll, rfl, .inl ⟨rfl, _, sq_of hll11⟩, heard_put (a := a) (i := 7) (j := 6) tab11 hk rfl rfl rfl (.inl ⟨mo, x, rfl, hmo11, hx, bv⟩) fun t3 H12 e12 tab12 ht3 => ⟨ll, [.ref t1, .ref t2], .ref t3, rfl, rfl, e12 _ _ hll11 (fun _ z => nomatch z), by show 2 < sizeLine; decide, ?_⟩⟩
        have hll12 := e12 _ _ hll11 (fun _ z => nomatch z)
        have ht1 := tup_app (ys := [.ref t1, .ref t2] ++ [.ref t3]) (e12 _ _ ht1 (fun _ z => nomatch z)) hll12
        have ht2 := tup_app (ys := [.ref t1, .ref t2] ++ [.ref t3]) (e12 _ _ ht2 (fun _ z => nomatch z)) hll12
        have ht3 := tup_app (ys := [.ref t1, .ref t2] ++ [.ref t3]) ht3 hll12
        have hpb13 : upd H12 ll (.lst ([.ref t1, .ref t2] ++ [.ref t3])) pb = some (.lst (badL y)) := by rw [upd_ne pl]; exact e12 _ _ hpb11 (fun _ z => nomatch z)
        have hmo13 := mode_app (ys := [.ref t1, .ref t2] ++ [.ref t3]) (hmo11.sd (Sd.ofN e12)) hll12
        have tab13 := tab_app (ys := [.ref t1, .ref t2] ++ [.ref t3]) tab12 hll12
        have e013 := ext_app (ys := [.ref t1, .ref t2] ++ [.ref t3]) e08 hll (e011.trans e12)
        have hll13 : upd H12 ll (.lst ([.ref t1, .ref t2] ++ [.ref t3])) ll = some (.lst ([.ref t1, .ref t2] ++ [.ref t3])) := upd_same
        generalize upd H12 ll (.lst ([.ref t1, .ref t2] ++ [.ref t3])) = H13 at ht1 ht2 ht3 hpb13 hmo13 tab13 e013 hll13
        refine ⟨.ref ll, rfl, by show 2 ≤ sizeLine; decide, fun u hu => ⟨by show 1 ≤ sizeLine; decide, fun w1 hw1 => ⟨w1, 3, [.ref u], rfl, rfl, upd_same, by decide, by decide, by show 1 * 3 ≤ sizeLine; decide, fun wl hwl => ?_⟩⟩⟩
        have x1 := Ex.new hu (o := .tup [.str "mode", .str "number"])
        have x2 := Ex.new hw1 (o := .lst [.ref u])
        have x3 := Ex.new hwl (o := .lst (List.replicate (3 : Int).toNat [V.ref u]).flatten)
        have x23 := x2.trans x3
        have x13 := x1.trans x23
        refine ⟨.ref ll, .ref wl, rfl, SD.seq (n := 1) (ys := [.ref u, .ref u, .ref u]) false (x13 _ _ hll13) upd_same rfl (by show 3 ≤ 1000; decide) (fun i' x' y' hx' hy' => ?_), fun H14 e14 => ⟨true, rfl, iteF ⟨_, _, _, rfl, (x13.trans e14) _ _ hpb13, hmo13.mono (x13.trans e14), tabs_keep tab13 (x13.trans e14), e013.trans (ExtN.of (x13.trans e14))⟩⟩⟩
        match i', hx', hy' with
        | 0, hx', hy' => cases hx'; cases hy'; exact sd_pair (x13 _ _ ht1) (x23 _ _ upd_same)
        | 1, hx', hy' => cases hx'; cases hy'; exact sd_pair (x13 _ _ ht2) (x23 _ _ upd_same)
        | 2, hx', hy' => cases hx'; cases hy'; exact sd_pair (x13 _ _ ht3) (x23 _ _ upd_same)
      · obtain ⟨o4, o5, o6, rfl, hpb, hmo7, tab7, e07⟩ := q
        exact s_ret (v := .bl true) ev_c fun H8 e8 => kk H8 (e07.trans (ExtN.of e8)) (tabs_keep tab7 e8)
end
end KC
set_option Elab.async false
set_option linter.all false
set_option maxRecDepth 100000
set_option maxHeartbeats 4000000
namespace KC
open PySem PySem.Spec PyProof.Rows L2 Evl
local macro_rules | `(tactic| walk_at "ev") => `(tactic| repeat' (first | exact ev_c | exact ev_var rfl | exact rv_I0 | refine' rv_I ?_ | refine' rv_eq ?_ | refine' rv_ne ?_ | refine' ev_op ?_ ?_ ?_ | exact ea_nil | refine' ea_cons ?_ ?_ | refine' et_test ?_ | refine' et_B ?_ | refine' et_not ?_ | refine' ev_notV ?_))

open PySem LamX
section
variable {K : PySem.W.Frag} {a : Ads} {σ : L2.St} {H : Hp} {T : List (Addr × Str)} {i j : Nat} {n m k : Nat} {x y : V} {Q : VK} {tk tx ty te tm : TE} {E : XK} {v : V} {p : Addr} {D : Ends} {tz tu : TS}
/-- y stands in the mode of number n -/
def Has (K : PySem.W.Frag) (a : Ads) (H : Hp) (y : V) (n : Nat) (b : Bool) : Prop := (∃ m : Nat, Opd a H y m ∧ b = decide (n &&& m = m)) ∨ (NoBit K a H y ∧ b = false)
theorem ev_inV {b : Bool} (hy : Ev ty σ H y) (hm : EvM a tm σ H n) (hn : n < 512) (h : ∀ H1, Ex H H1 → Has K a H1 y n b) : Ev (tOp (rInOwn a.f_Mode (fun vs H Q E => spCont K a (vs ++ []) H Q E) E) ty tm) σ H (.bl b) := fun H1 e Q q =>
  hy H1 e _ fun H2 e2 => hm H2 (e.trans e2) _ fun p H3 _ e3 mp => by
    obtain ⟨dx, ho⟩ := id mp
    refine ⟨p, dx, _, rfl, ho, p, n, y, rfl, mp, hn, ?_⟩
    rcases h H3 ((e.trans e2).trans e3) with ⟨m, o, rfl⟩ | ⟨nb, rfl⟩
    · exact .inl ⟨m, o, fun H4 e4 => ⟨_, rfl, q H4 ((e2.trans e3).trans e4)⟩⟩
    · exact .inr ⟨nb, fun H4 e4 => ⟨_, rfl, q H4 ((e2.trans e3).trans e4)⟩⟩
theorem ev_inM (hy : EvM a ty σ H m) (hm : EvM a tm σ H n) (hn : n < 512) (hm5 : m < 512) : Ev (tOp (rInOwn a.f_Mode (fun vs H Q E => spCont K a (vs ++ []) H Q E) E) ty tm) σ H (.bl (decide (n &&& m = m))) := fun H1 e Q q =>
  hy H1 e _ fun r H2 _ e2 mr => hm H2 (e.trans e2) _ fun p H3 _ e3 mp => by
    obtain ⟨dx, ho⟩ := id mp
    exact ⟨p, dx, _, rfl, ho, p, n, .ref r, rfl, mp, hn, .inl ⟨m, ⟨hm5, .inr ⟨r, rfl, mr.mono e3⟩⟩, fun H4 e4 => ⟨_, rfl, q H4 ((e2.trans e3).trans e4)⟩⟩⟩
theorem em_inv (hm : EvM a tm σ H n) (hn : n < 512) : EvM a (tUn (rInv a.f_Mode (fun vs H Q E => spInv a (vs ++ []) H Q E) E) tm) σ H (511 - n) := fun H1 e Q q =>
  hm H1 e _ fun p H2 _ e2 mp => by
    obtain ⟨dx, ho⟩ := id mp
    exact ⟨p, dx, _, rfl, ho, p, n, rfl, mp, hn, fun r H3 hr e3 mr => q r H3 (fresh_back e2 hr) (e2.trans e3) mr⟩
theorem ev_strNM {ta : TE} (h : EvM a ta σ H n) (hn : n < 512) : Ev (tCB (rStrOwn a.f_Mode (fun vs H Q E => spStr a (vs ++ []) H Q E) E) (tCons ta tNil)) σ H (.str (shown n)) := fun H1 e1 Q q =>
  h H1 e1 _ fun p H2 _ e2 m2 => by
    obtain ⟨dx, ho⟩ := id m2
    exact ⟨p, dx, _, rfl, ho, p, n, rfl, m2, hn, fun H3 e3 => ⟨shown n, rfl, q H3 (e2.trans e3)⟩⟩
theorem ev_sameL {ta tb : TE} {xs : List V} (h1 : EvL ta σ H xs) (h2 : ∀ H1, Ex H H1 → EvL tb σ H1 xs) (short : xs.length ≤ 1000) (fl : ∀ (H : Hp) (x : V), x ∈ xs → SD H 0 x x) : Ev (tCall (spSame 1) [] E (tCons ta (tCons tb tNil))) σ H (.bl true) := fun H1 e Q k =>
  h1 H1 e _ fun b H2 _ e2 x2 => h2 H2 (e.trans e2) H2 (Ex.refl _) _ fun c H3 _ e3 y3 => ⟨.ref b, .ref c, rfl, .seq false (show H3 b = _ from e3 _ _ x2) (show H3 c = _ from y3) rfl short (fun j x y hx hy => by
    rw [hx] at hy
    cases hy
    exact fl H3 x (List.mem_of_getElem? hx)), fun H4 e4 => k H4 ((e2.trans e3).trans e4)⟩
theorem q_parDraw {bi m1 m2 : Nat} {E' : XK} (hi : σ[bi]? = some (some (.ref p))) (hb : BagAt H p) (h0 : 0 < m1) (h1 : m1 ≤ 1000) (h2 : 0 < m2) (h3 : m2 ≤ 1000) (k : ∀ (d1 d2 : Nat) H', d1 < m1 → d2 < m2 → ExB p H H' → BagAt H' p → tz D ((σ.set i (some (.int (d1 : Nat)))).set j (some (.int (d2 : Nat)))) H') :
    tSeq (tPar i j (tCons (tCall spDraw [] E (tCons (tVar bi) (tCons (tC (.int (m1 : Nat))) tNil))) (tCons (tCall spDraw [] E' (tCons (tVar bi) (tCons (tC (.int (m2 : Nat))) tNil))) tNil))) tz D σ H :=
  draw_is m1 hi hb h0 h1 fun d1 H1 hd1 e1 b1 => draw_is m2 hi b1 h2 h3 fun d2 H2 hd2 e2 b2 => ⟨_, _, rfl, k d1 d2 H2 hd1 hd2 (e1.trans e2) b2⟩
theorem q_drawAsg {bi m : Nat} {b c : Int} (hi : σ[bi]? = some (some (.ref p))) (hb : BagAt H p) (h0 : 0 < m) (h1 : m ≤ 1000) (hv : ∀ H', Ev te σ H' (.int c)) (hs : σ.set i (some (.int b)) = σ) (k : ∀ (r : Int) H', (r = b ∨ r = c) → ExB p H H' → BagAt H' p → tz D (σ.set i (some (.int r))) H') :
    tSeq (tIfS (tTest (tOp rEq (tCall spDraw [] E (tCons (tVar bi) (tCons (tC (.int (m : Nat))) tNil))) (tC (.int 0)))) (tAsg te (gName i)) tNext) tz D σ H :=
  draw_is m hi hb h0 h1 fun d H1 hd e1 b1 => ⟨rfl, _, rfl, by
    by_cases h : V.int (d : Nat) = V.int 0
    · rw [decide_eq_true h]
      show tAsg te (gName i) _ σ H1
      exact hv H1 H1 (Ex.refl _) _ fun H2 e2 => k c H2 (.inr rfl) (fun q o hq hn => e2 _ _ (e1 _ _ hq hn)) (b1.keep e2)
    · rw [decide_eq_false h]
      have g := k b H1 (.inl rfl) e1 b1
      rw [hs] at g
      exact g⟩
def oddV (b : Nat) (t1 l1 d1 : Addr) : List V := [.non, .bl true, .bl false, .str "r", .int (512 + (b : Nat)), .int (-1), .ref t1, .ref l1, .str (shown b), .ref d1]
theorem s_forOdd {b : Nat} {t1 t2 t3 t4 t5 t6 t7 t8 t9 t10 : TE} {g : TG} (h1 : Ev t1 σ H .non) (h2 : Ev t2 σ H (.bl true)) (h3 : Ev t3 σ H (.bl false)) (h4 : Ev t4 σ H (.str "r")) (h5 : Ev t5 σ H (.int (512 + (b : Nat)))) (h6 : Ev t6 σ H (.int (-1)))
    (h7 : EvU t7 σ H [.int (b : Nat)]) (h8 : EvL t8 σ H [.int (b : Nat)]) (h9 : Ev t9 σ H (.str (shown b))) (h10 : EvD t10 σ H []) (k : ∀ p1 p2 p3 l H1, Ex H H1 → H1 p1 = some (.tup [.int (b : Nat)]) → H1 p2 = some (.lst [.int (b : Nat)]) → H1 p3 = some (.dK []) → H1 l = some (.lst (oddV b p1 p2 p3)) → tFor (iList K (tC (.ref l))) g tu D σ H1) :
    tFor (iList K (tLst (tCons t1 (tCons t2 (tCons t3 (tCons t4 (tCons t5 (tCons t6 (tCons t7 (tCons t8 (tCons t9 (tCons t10 tNil)))))))))))) g tu D σ H :=
  (ea_cons h1 (ea_cons h2 (ea_cons h3 (ea_cons h4 (ea_cons h5 (ea_cons h6 ea_nil))))) : EvA _ σ H [.non, .bl true, .bl false, .str "r", .int (512 + (b : Nat)), .int (-1)]) H (Ex.refl H) (fun xs H1 => xs = [.non, .bl true, .bl false, .str "r", .int (512 + (b : Nat)), .int (-1)] → True) (fun _ _ _ => trivial) |> fun _ =>
  h1 H (Ex.refl H) _ fun H1 e1 => h2 H1 e1 _ fun H2 e2 => h3 H2 (e1.trans e2) _ fun H3 e3 => h4 H3 ((e1.trans e2).trans e3) _ fun H4 e4 => by
    have e04 := ((e1.trans e2).trans e3).trans e4
    refine h5 H4 e04 _ fun H5 e5 => h6 H5 (e04.trans e5) _ fun H6 e6 => h7 H6 ((e04.trans e5).trans e6) _ fun p1 H7 _ e7 q1 => ?_
    have e07 := ((e04.trans e5).trans e6).trans e7
    refine h8 H7 e07 _ fun p2 H8 _ e8 q2 => h9 H8 (e07.trans e8) _ fun H9 e9 => h10 H9 ((e07.trans e8).trans e9) _ fun p3 H10 _ e10 q3 => ⟨by show 10 ≤ sizeLine; decide, fun l hl => ?_⟩
    have el := Ex.new hl (o := .lst (oddV b p1 p2 p3))
    exact k p1 p2 p3 l _ ((((e07.trans e8).trans e9).trans e10).trans el) (el _ _ (e10 _ _ (e9 _ _ (e8 _ _ q1)))) (el _ _ (e10 _ _ (e9 _ _ q2))) (el _ _ q3) upd_same
theorem ed_new : EvD tDNewK σ H [] := fun H1 e Q q p hp => q p _ hp (Ex.new hp) upd_same
end
theorem kb_dict : kitB "dict" "int" = some false ∧ kitB "dict" "bool" = some false := by decide +kernel
def spLaw (K : PySem.W.Frag) (a : Ads) : Sp := fun vs H Q _ => ∃ (s : Addr) (ns : List Int), vs = [.ref s] ∧ SqL K H s (ns.map V.int) ∧ ns.length ≤ 63 ∧ H a.PR = some (.tbl #[]) ∧ ∀ H', Q (.bl true) H'
section
variable {P : Program} {w : World} {K : PySem.W.Frag} {mg : Str → Option Value} {base : Heap} {a : Ads}
theorem odd_no (T : Txt w K mg a) {H : Hp} {b i : Nat} {p1 p2 p3 : Addr} {v : V} (q1 : H p1 = some (.tup [.int (b : Nat)])) (q2 : H p2 = some (.lst [.int (b : Nat)])) (q3 : H p3 = some (.dK [])) (h : (oddV b p1 p2 p3)[i]? = some v) : NoBit K a H v := by
  have no : ∀ (t : String), (∀ H', Ex H H' → TyX K H' v (.type t)) → ∀ b1 b2, kitB t "int" = some b1 → kitB t "bool" = some b2 → (b1 && !b2) = false → PySem.W.kitOne K (.type t) (.ref a.f_Mode) = some false → NoBit K a H v := fun t ty b1 b2 h1 h2 h3 nm => .inr ⟨t, b1, b2, ty, h1, h2, h3, nm⟩
  match i, h with
  | 0, h => cases h; exact no "NoneType" (fun _ _ => .base .non) _ _ kb_non.1 kb_non.2 rfl T.nt_NoneType
  | 1, h => cases h; exact no "bool" (fun _ _ => .base (.bl _)) _ _ kb_bl.1 kb_bl.2 rfl T.nt_bool
  | 2, h => cases h; exact no "bool" (fun _ _ => .base (.bl _)) _ _ kb_bl.1 kb_bl.2 rfl T.nt_bool
  | 3, h => cases h; exact no "str" (fun _ _ => .base (.str _)) _ _ kb_str.1 kb_str.2 rfl T.nt_str
  | 4, h => cases h; exact .inl ⟨_, rfl, .inr (by omega)⟩
  | 5, h => cases h; exact .inl ⟨_, rfl, .inl (by decide)⟩
  | 6, h => cases h; exact no "tuple" (fun _ e => .base (.tup (e _ _ q1))) _ _ kb_tup.1 kb_tup.2 rfl T.nt_tuple
  | 7, h => cases h; exact no "list" (fun _ e => .base (.lst (e _ _ q2))) _ _ kb_lst.1 kb_lst.2 rfl T.nt_list
  | 8, h => cases h; exact no "str" (fun _ _ => .base (.str _)) _ _ kb_str.1 kb_str.2 rfl T.nt_str
  | 9, h => cases h; exact no "dict" (fun _ e => .base (.dK (e _ _ q3))) _ _ kb_dict.1 kb_dict.2 rfl T.nt_dict
theorem ok_law (T : Txt w K mg a) {fL : Addr} {oc kV doc pm ct cdL : Value} {od an : Option Addr} {osl : Array (Option Value)} (lkL : K.lookup fL = some ⟨oc, od, .func (PySem.W.fnOf "law" "law" (defArgs s_law) (defBody s_law) (defScope s_law) .none kV doc pm an cdL ct), osl⟩) (hcdL : PySem.W.codeIn K cdL "law" = true) (TBR : TabB base mg a.cR a.PR) :
    FnOk P w K mg base CX0 13 fL (PySem.W.fnOf "law" "law" (defArgs s_law) (defBody s_law) (defScope s_law) .none kV doc pm an cdL ct) ["_law_script"] (spLaw K a) := by
  have G__law_bag : FnOk P w K mg base CX0 12 _ _ _ _ := (ok_bag T).mono (by decide)
  have G__law_draw : FnOk P w K mg base CX0 12 _ _ _ _ := (ok_draw T).mono (by decide)
  have G__law_bits : FnOk P w K mg base CX0 12 _ _ _ _ := (ok_bits T).mono (by decide)
  have G__law_right : FnOk P w K mg base CX0 12 _ _ _ _ := ok_right T TBR
  have G__law_is_mode : FnOk P w K mg base CX0 12 _ _ _ _ := (ok_is_mode T).mono (by decide)
  have G__law_same : FnOk P w K mg base CX0 12 _ _ _ (spSame 1) := (show FnOk P w K mg base CX0 2 _ _ _ (spSame 1) from ok_sameG T 2).mono (by decide)
  have G_Mode_init : FnOk P w K mg base CX0 11 _ _ _ _ := (ok_Mode_init T).mono (by decide)
  have G_inv : FnOk P w K mg base CX0 12 _ _ _ _ := (ok_invert T).mono (by decide)
  have G_cont : FnOk P w K mg base (L2.CX P w) 12 _ _ _ _ := (ok_contains T).mono (by decide)
  have G_ModeD_strD : FnOk P w K mg base CX0 10 _ _ _ _ := (ok_Mode_str T).mono (by decide)
  refine fn_of lkL hcdL sc_law (fun vs H Q E h => ?_) fun A outer s H vs Q E hr h => ?_
  · obtain ⟨_, _, rfl, _⟩ := h
    rfl
  · obtain ⟨sc, ns, rfl, hs, hl, tabR, kk⟩ := h
    have hrc : Room 12 _ := hr
    have hrm : Room (11 + 1) _ := hr
    have hrs : Room (10 + 2) _ := hr
    refine ⟨_, (show PSs (cxOf CX0 P w K mg base n_law "law" (defScope s_law) fL cdL A outer s H E).nox (defBody s_law) _ from (pss_cons (ps_set (i := 1) sc_law.nd rfl (Or.inl rfl) (pe_call G__law_bag hrc rfl T.mg__law_bag T.fn__law_bag.kp (bd__law_bag T) .nil pass0 (pa_cons (pv 0) pa_nil)))
    (pss_cons (ps_for PassesOwn.never rfl (pi_range1 rfl T.b_range (pa_cons pe_int pa_nil)) (pg_name (i := 2) sc_law.nd rfl (Or.inl rfl)) (pss_cons (ps_par (i := 3) (j := 4) rfl sc_law.nd rfl rfl (by decide) rfl rfl (pa_cons (pe_call G__law_draw hrc rfl T.mg__law_draw T.fn__law_draw.kp (bd__law_draw T) .nil pass0 (pa_cons (pv 1) (pa_cons pe_int pa_nil))) (pa_cons (pe_call G__law_draw hrc rfl T.mg__law_draw T.fn__law_draw.kp (bd__law_draw T) .nil pass0 (pa_cons (pv 1) (pa_cons pe_int pa_nil))) pa_nil)) (by rfl))
    (pss_cons (ps_if (pt_cmpR op_eq (pe_call G__law_draw hrc rfl T.mg__law_draw T.fn__law_draw.kp (bd__law_draw T) .nil pass0 (pa_cons (pv 1) (pa_cons pe_int pa_nil))) pe_int (nomark _)) (pss_one (ps_set (i := 4) sc_law.nd rfl (Or.inl rfl) (pe_call G__law_bits hrc rfl T.mg__law_bits T.fn__law_bits.kp (bd__law_bits T) .nil pass0 (pa_cons pe_int (pa_cons (pv 3) (pa_cons (pv 4) pa_nil)))))) pss_nil)
    (pss_cons (ps_for PassesOwn.never rfl (pi_range1 rfl T.b_range (pa_cons pe_int pa_nil)) (pg_name (i := 5) sc_law.nd rfl (Or.inl rfl)) (pss_one (ps_if (pt_not (pt_val (pe_call G__law_right hrc rfl T.mg__law_right T.fn__law_right.kp (bd__law_right T) .nil pass0 (pa_cons (pv 5) (pa_cons (pv 3) (pa_cons (pv 4) pa_nil)))))) (pss_one (ps_ret pe_bl)) pss_nil)))
    (pss_cons (ps_if (PW.pt (pw_or (pt_not (pt_val (pe_call G__law_is_mode hrc rfl T.mg__law_is_mode T.fn__law_is_mode.kp (bd__law_is_mode T) .nil pass0 (pa_cons (pe_un (un_invOwn T.m_ModeD_invertD.at_ T.m_ModeD_invertD.fn (G_inv.raw (bd_ModeD_invertD T) .nil) hrc pass0) (pe_make T.mk_Mode G_Mode_init hrm rfl T.mg_Mode (bd_ModeD_initD T) .nil pass0 (pa_cons (pv 3) pa_nil))) (pa_cons (pe_op op_sub pe_int (pv 3)) pa_nil))))) (pw_or1 (pt_not (pt_val (pe_call G__law_is_mode hrc rfl T.mg__law_is_mode T.fn__law_is_mode.kp (bd__law_is_mode T) .nil pass0 (pa_cons (pe_un (un_invOwn T.m_ModeD_invertD.at_ T.m_ModeD_invertD.fn (G_inv.raw (bd_ModeD_invertD T) .nil) hrc pass0) (pe_un (un_invOwn T.m_ModeD_invertD.at_ T.m_ModeD_invertD.fn (G_inv.raw (bd_ModeD_invertD T) .nil) hrc pass0) (pe_make T.mk_Mode G_Mode_init hrm rfl T.mg_Mode (bd_ModeD_initD T) .nil pass0 (pa_cons (pv 3) pa_nil)))) (pa_cons (pv 3) pa_nil)))))))) (pss_one (ps_ret pe_bl)) pss_nil)
    (pss_cons (ps_set (i := 6) sc_law.nd rfl (Or.inl rfl) (pe_cmpR op_eq (pe_call G__law_bits hrc rfl T.mg__law_bits T.fn__law_bits.kp (bd__law_bits T) .nil pass0 (pa_cons pe_int (pa_cons (pv 3) (pa_cons (pv 4) pa_nil)))) (pv 4) (nomark _)))
    (pss_cons (ps_if (pt_not (pt_val (pe_call G__law_same hrc rfl T.mg__law_same T.fn__law_same.kp (bd__law_same T) .nil pass0 (pa_cons (pe_lst (pa_cons (pe_cmpR (op_inOwn T.m_ModeD_containsD.at_ T.m_ModeD_containsD.fn (G_cont.raw (bd_ModeD_containsD T) .nil) hrc passL) (pe_make T.mk_Mode G_Mode_init hrm rfl T.mg_Mode (bd_ModeD_initD T) .nil pass0 (pa_cons (pv 4) pa_nil)) (pe_make T.mk_Mode G_Mode_init hrm rfl T.mg_Mode (bd_ModeD_initD T) .nil pass0 (pa_cons (pv 3) pa_nil)) (by rfl)) (pa_cons (pe_cmpR (op_inOwn T.m_ModeD_containsD.at_ T.m_ModeD_containsD.fn (G_cont.raw (bd_ModeD_containsD T) .nil) hrc passL) (pv 4) (pe_make T.mk_Mode G_Mode_init hrm rfl T.mg_Mode (bd_ModeD_initD T) .nil pass0 (pa_cons (pv 3) pa_nil)) (by rfl)) (pa_cons (pe_cmpR (op_inOwn T.m_ModeD_containsD.at_ T.m_ModeD_containsD.fn (G_cont.raw (bd_ModeD_containsD T) .nil) hrc passL) (pe_make T.mk_Mode G_Mode_init hrm rfl T.mg_Mode (bd_ModeD_initD T) .nil pass0 (pa_cons (pv 3) pa_nil)) (pe_make T.mk_Mode G_Mode_init hrm rfl T.mg_Mode (bd_ModeD_initD T) .nil pass0 (pa_cons (pv 3) pa_nil)) (by rfl)) (pa_cons (pe_cmpR (op_inOwn T.m_ModeD_containsD.at_ T.m_ModeD_containsD.fn (G_cont.raw (bd_ModeD_containsD T) .nil) hrc passL) pe_int (pe_make T.mk_Mode G_Mode_init hrm rfl T.mg_Mode (bd_ModeD_initD T) .nil pass0 (pa_cons (pv 3) pa_nil)) (by rfl)) pa_nil))))) (pa_cons (pe_lst (pa_cons (pv 6) (pa_cons (pv 6) (pa_cons pe_bl (pa_cons pe_bl pa_nil))))) pa_nil))))) (pss_one (ps_ret pe_bl)) pss_nil)
    (pss_one (ps_for PassesOwn.never rfl (pi_list (pe_lst (pa_cons pe_non (pa_cons pe_bl (pa_cons pe_bl (pa_cons pe_str (pa_cons (pe_op op_add pe_int (pv 4)) (pa_cons (pe_un un_neg pe_int) (pa_cons (pe_tup (pa_cons (pv 4) pa_nil)) (pa_cons (pe_lst (pa_cons (pv 4) pa_nil)) (pa_cons (pe_callTy (call_strOwn T.m_ModeD_strD.at_ T.m_ModeD_strD.fn (G_ModeD_strD.raw (bd_ModeD_strD T) .nil) hrs pass0) (by rfl) T.b_str (by decide +kernel) (pa_cons (pe_make T.mk_Mode G_Mode_init hrm rfl T.mg_Mode (bd_ModeD_initD T) .nil pass0 (pa_cons (pv 4) pa_nil)) pa_nil)) (pa_cons pe_dnewK pa_nil)))))))))))) (pg_name (i := 7) sc_law.nd rfl (Or.inl rfl)) (pss_one (ps_if (pt_not (pt_val (pe_call G__law_same hrc rfl T.mg__law_same T.fn__law_same.kp (bd__law_same T) .nil pass0 (pa_cons (pe_cmpR (op_inOwn T.m_ModeD_containsD.at_ T.m_ModeD_containsD.fn (G_cont.raw (bd_ModeD_containsD T) .nil) hrc passL) (pv 7) (pe_make T.mk_Mode G_Mode_init hrm rfl T.mg_Mode (bd_ModeD_initD T) .nil pass0 (pa_cons (pv 3) pa_nil)) (by rfl)) (pa_cons pe_bl pa_nil))))) (pss_one (ps_ret pe_bl)) pss_nil)))))))))))
    (pss_one (ps_ret pe_bl))))).nox, ?_⟩
    refine ⟨.ref sc, rfl, sc, ns, rfl, hs, hl, fun p H1 hp e1 bag1 => ?_⟩
    have tab1 : Tabs [(a.PR, qR)] H1 := fun q hq => by
      rw [List.mem_singleton.mp hq]
      exact TabS.nil (e1 _ _ tabR)
    refine q_forR1 (n := 6) (ea_cons ev_c ea_nil) (by decide) (fun i σ' H' => ∃ o2 o3 o4 o5 o6 o7, σ' = [some (.ref sc), some (.ref p), o2, o3, o4, o5, o6, o7] ∧ BagAt H' p ∧ Tabs [(a.PR, qR)] H') (fun H2 e2 => ⟨_, _, _, _, _, _, rfl, bag1.keep e2, tabs_keep tab1 e2⟩) (fun i σ' H2 hi q => ?_) (fun σ' H2 q => ?_)
    · obtain ⟨o2, o3, o4, o5, o6, o7, rfl, bag2, tab2⟩ := q
      refine q_parDraw (m1 := 512) (m2 := 512) (p := p) rfl bag2 (by decide) (by decide) (by decide) (by decide) fun x y0 H3 hx hy0 e3 bag3 => ?_
      have tab3 := tabs_exB tab2 bag2 e3
      refine q_drawAsg (m := 3) (p := p) (b := (y0 : Nat)) (c := (opN 1 x y0 : Nat)) rfl bag3 (by decide) (by decide) (fun H' => ev_call (vs := [.int 1, .int (x : Nat), .int (y0 : Nat)]) (ea_cons ev_c (ea_cons (ev_var rfl) (ea_cons (ev_var rfl) ea_nil))) fun H1 e Q q E => ⟨1, x, y0, rfl, by decide, hx, hy0, q⟩) rfl fun y' H4 hy' e4 bag4 => ?_
      have tab4 := tabs_exB tab3 bag3 e4
      obtain ⟨y, rfl, hy⟩ : ∃ y : Nat, y' = (y : Nat) ∧ y < 512 := by
        rcases hy' with rfl | rfl
        · exact ⟨_, rfl, hy0⟩
        · exact ⟨_, rfl, opN_lt 1 hx hy0⟩
      refine q_forR1 (n := 3) (ea_cons ev_c ea_nil) (by decide) (fun j σ' H' => ∃ o5, σ' = [some (.ref sc), some (.ref p), some (.int (i : Nat)), some (.int (x : Nat)), some (.int (y : Nat)), o5, o6, o7] ∧ BagAt H' p ∧ Tabs [(a.PR, qR)] H') (fun H5 e5 => ⟨_, rfl, bag4.keep e5, tabs_keep tab4 e5⟩) (fun j σ' H5 hj q => ?_) (fun σ' H5 q => ?_)
      · obtain ⟨o5, rfl, bag5, tab5⟩ := q
        exact ⟨.int (j : Nat), rfl, .int (x : Nat), rfl, .int (y : Nat), rfl, j, x, y, rfl, by omega, hx, hy, tab5, fun H6 e6 tab6 => ⟨true, rfl, iteF ⟨_, rfl, bag5.keepN e6, tab6⟩⟩⟩
      · obtain ⟨o5, rfl, bag5, tab5⟩ := q
        have hx11 : 511 - (511 - x) = x := by omega
        refine q_when (b := false) (et_is (et_or (a := false) (b := false) (et_is (et_not (a := true) (et_B (ev_isMode (a := a) (n := 511 - x) (em_inv (em_mode (ev_var rfl) hx) hx) (ev_is (ev_op ev_c (ev_var rfl) rv_I0) (congrArg V.int (by omega)))))) rfl) fun _ => et_is (et_not (a := true) (et_B (ev_isMode (a := a) (n := x) (em_is (em_inv (em_inv (em_mode (ev_var rfl) hx) hx) (by omega)) hx11) (ev_var rfl)))) rfl) rfl) (fun z => nomatch z) fun _ H6 e6 => ?_
        refine q_asg (v := .bl (decide (x &&& y = y))) (ev_is (ev_op (ev_call (vs := [.int 1, .int (x : Nat), .int (y : Nat)]) (ea_cons ev_c (ea_cons (ev_var rfl) (ea_cons (ev_var rfl) ea_nil))) fun H1 e Q q E => ⟨1, x, y, rfl, by decide, hx, hy, q⟩) (ev_var rfl) (rv_eq rfl)) (congrArg V.bl (decide_eq_decide.mpr ⟨fun z => by injection z with z; exact Int.ofNat.inj z, fun z => by show V.int ((x &&& y : Nat) : Int) = _; rw [z]⟩))) fun H7 e7 => ?_
        refine q_when (b := false) (et_not (a := true) (et_B (ev_sameL (xs := [.bl (decide (x &&& y = y)), .bl (decide (x &&& y = y)), .bl true, .bl true]) (el_lst (vs := [.bl (decide (x &&& y = y)), .bl (decide (x &&& y = y)), .bl true, .bl true]) (ea_cons (ev_inM (K := K) (em_mode (ev_var rfl) hy) (em_mode (ev_var rfl) hx) hx hy) (ea_cons (ev_inV (K := K) (y := .int (y : Nat)) (ev_var rfl) (em_mode (ev_var rfl) hx) hx fun _ _ => .inl ⟨y, ⟨hy, .inl rfl⟩, rfl⟩) (ea_cons (ev_is (ev_inM (K := K) (em_mode (ev_var rfl) hx) (em_mode (ev_var rfl) hx) hx hx) (congrArg V.bl (decide_eq_true (Nat.and_self x)))) (ea_cons (ev_inV (K := K) (y := .int 0) ev_c (em_mode (ev_var rfl) hx) hx fun _ _ => .inl ⟨0, ⟨by decide, .inl rfl⟩, (decide_eq_true (Nat.and_zero x)).symm⟩) ea_nil)))) (by show 4 ≤ 100000; decide)) (fun H8 e8 => el_lst (vs := [.bl (decide (x &&& y = y)), .bl (decide (x &&& y = y)), .bl true, .bl true]) (ea_cons (ev_var rfl) (ea_cons (ev_var rfl) (ea_cons ev_c (ea_cons ev_c ea_nil)))) (by show 4 ≤ 100000; decide)) (by show 4 ≤ 1000; decide) (fun H z m => by
          obtain ⟨b, rfl⟩ : ∃ b, z = .bl b := by
            simp only [List.mem_cons, List.not_mem_nil, or_false] at m
            rcases m with rfl | rfl | rfl | rfl <;> exact ⟨_, rfl⟩
          exact .bl 0 b)))) (fun z => nomatch z) fun _ H8 e8 => ?_
        have e58 := (e6.trans e7).trans e8
        have bag8 := bag5.keep e58
        have tab8 := tabs_keep tab5 e58
        refine s_forOdd (K := K) (b := y) ev_c ev_c ev_c ev_c (ev_op ev_c (ev_var rfl) rv_I0) (ev_un ev_c ru_neg) (eu_tup (vs := [.int (y : Nat)]) (ea_cons (ev_var rfl) ea_nil) (by show 1 ≤ 100000; decide)) (el_lst (vs := [.int (y : Nat)]) (ea_cons (ev_var rfl) ea_nil) (by show 1 ≤ 100000; decide)) (ev_strNM (em_mode (ev_var rfl) hy) hy) ed_new fun p1 p2 p3 l H9 e9 q1 q2 q3 ql => ?_
        refine s_forLn (K := K) (xs := oddV y p1 p2 p3) ev_c (sq_of ql) (fun j σ' H' => ∃ o7, σ' = [some (.ref sc), some (.ref p), some (.int (i : Nat)), some (.int (x : Nat)), some (.int (y : Nat)), o5, some (.bl (decide (x &&& y = y))), o7] ∧ Ex H9 H') (fun H10 e10 => ⟨_, rfl, e10⟩) (fun j σ' H' _ q => by
          obtain ⟨_, _, e⟩ := q
          exact sq_of (e _ _ ql)) (fun j v σ' H10 hv q => ?_) (fun σ' H10 q => ?_)
        · obtain ⟨o7', rfl, e10⟩ := q
          refine s_when (b := false) (et_not (a := true) (et_B (ev_call (sp := spSame 1) (dvs := []) (vs := [.bl false, .bl false]) (ea_cons (ev_inV (K := K) (y := v) (ev_var rfl) (em_mode (ev_var rfl) hx) hx fun H11 e11 => .inr ⟨odd_no T (e11 _ _ (e10 _ _ q1)) (e11 _ _ (e10 _ _ q2)) (e11 _ _ (e10 _ _ q3)) hv, rfl⟩) (ea_cons ev_c ea_nil)) fun H12 e12 Q12 q12 E12 => ⟨_, _, rfl, .bl 1 _, q12⟩))) (fun z => nomatch z) fun _ H11 e11 => ?_
          exact ⟨_, rfl, e10.trans e11⟩
        · obtain ⟨o7', rfl, e10⟩ := q
          exact ⟨_, _, _, _, _, _, rfl, bag8.keep (e9.trans e10), tabs_keep tab8 (e9.trans e10)⟩
    · obtain ⟨o2, o3, o4, o5, o6, o7, rfl, bag2, tab2⟩ := q
      exact s_ret (v := .bl true) ev_c fun H3 e3 => kk H3
end
end KC
set_option Elab.async false
set_option linter.all false
set_option maxRecDepth 100000
set_option maxHeartbeats 4000000
namespace KC
open PySem PySem.Spec PyProof.Rows L2 Evl
local macro_rules | `(tactic| walk_at "ev") => `(tactic| repeat' (first | exact ev_c | exact ev_var rfl | exact rv_I0 | refine' rv_I ?_ | refine' rv_eq ?_ | refine' rv_ne ?_ | refine' ev_op ?_ ?_ ?_ | exact ea_nil | refine' ea_cons ?_ ?_ | refine' et_test ?_ | refine' et_B ?_ | refine' et_not ?_ | refine' ev_notV ?_))

open PySem
theorem kit_self {K : PySem.W.Frag} {C : Addr} : PySem.W.kitOne K (.ref C) (.ref C) = some true := by
  unfold PySem.W.kitOne
  rw [if_pos (beq_iff_eq.mpr rfl)]
theorem kit_no {K : PySem.W.Frag} {C : Addr} {cd : PySem.ClassData} (ci : PySem.W.clsIn K C = some cd) (ti : PySem.W.typeIn K (.ref C) = some (.type "type")) (su : PySem.W.subIn K (.type "int") (.ref C) = some false) : PySem.W.kitOne K (.type "int") (.ref C) = some false := by
  unfold PySem.W.kitOne PySem.W.kitCls
  rw [if_neg (fun h => by have := beq_iff_eq.mp h; cases this)]
  show (if ((PySem.W.clsIn K C).isSome && PySem.W.typeIn K (.ref C) == some (.type "type")) = true then PySem.W.subIn K (.type "int") (.ref C) else none) = some false
  rw [if_pos (by rw [ci, ti]; simp), su]
theorem tup_at {K : PySem.W.Frag} {H : Hp} {k : Addr} {its : Array Value} {n : Nat} {od : Option Addr} {sl : Array (Option Value)} {xs : List V} (l : K.lookup k = some ⟨.type "tuple", od, .seq its n, sl⟩) (z : its.size ≤ sizeLine) (r : Vals xs its.toList) : SqT K H k xs := .inr ⟨_, its, n, l, rfl, rfl, z, r⟩
theorem kit_ref {K : PySem.W.Frag} {D B : Addr} {cd : PySem.ClassData} {b : Bool} (ci : PySem.W.clsIn K B = some cd) (ti : PySem.W.typeIn K (.ref B) = some (.type "type")) (su : PySem.W.subIn K (.ref D) (.ref B) = some b) (ne : D ≠ B) : PySem.W.kitOne K (.ref D) (.ref B) = some b := by
  unfold PySem.W.kitOne PySem.W.kitCls
  rw [if_neg (fun h => by have := beq_iff_eq.mp h; cases this; exact ne rfl)]
  show (if ((PySem.W.clsIn K B).isSome && PySem.W.typeIn K (.ref B) == some (.type "type")) = true then PySem.W.subIn K (.ref D) (.ref B) else none) = some b
  rw [if_pos (by rw [ci, ti]; simp), su]
theorem kit_ve {K : PySem.W.Frag} {D : Addr} {b : Bool} (su : PySem.W.subIn K (.ref D) (.type "ValueError") = some b) : PySem.W.kitOne K (.ref D) (.type "ValueError") = some b := by
  unfold PySem.W.kitOne PySem.W.kitCls
  rw [if_neg (fun h => by have := beq_iff_eq.mp h; cases this)]
  show (if PySem.W.kitMeta "ValueError" = true then PySem.W.subIn K (.ref D) (.type "ValueError") else none) = some b
  rw [if_pos (by decide +kernel), su]
theorem exm_ref {K : PySem.W.Frag} {D B : Addr} {cd : PySem.ClassData} {b : Bool} (ex : PySem.W.subIn K (.ref B) (.type "BaseException") = some true) (ci : PySem.W.clsIn K B = some cd) (ti : PySem.W.typeIn K (.ref B) = some (.type "type")) (su : PySem.W.subIn K (.ref D) (.ref B) = some b) : PySem.W.exmOne K (.ref D) (.ref B) = some b := by
  unfold PySem.W.exmOne PySem.W.kitCls
  rw [if_pos (by rw [ex]; rfl)]
  show (if ((PySem.W.clsIn K B).isSome && PySem.W.typeIn K (.ref B) == some (.type "type")) = true then PySem.W.subIn K (.ref D) (.ref B) else none) = some b
  rw [if_pos (by rw [ci, ti]; simp), su]
theorem kit_noT {K : PySem.W.Frag} {C : Addr} {t : String} {cd : PySem.ClassData} (ci : PySem.W.clsIn K C = some cd) (ti : PySem.W.typeIn K (.ref C) = some (.type "type")) (su : PySem.W.subIn K (.type t) (.ref C) = some false) : PySem.W.kitOne K (.type t) (.ref C) = some false := by
  unfold PySem.W.kitOne PySem.W.kitCls
  rw [if_neg (fun h => by have := beq_iff_eq.mp h; cases this)]
  show (if ((PySem.W.clsIn K C).isSome && PySem.W.typeIn K (.ref C) == some (.type "type")) = true then PySem.W.subIn K (.type t) (.ref C) else none) = some false
  rw [if_pos (by rw [ci, ti]; simp), su]
theorem bf_mk {K : PySem.W.Frag} {C f g : Addr} {nm : String} {d r i : Str} {fo ro : Option Value} {cd : PySem.ClassData} (e1 : PySem.dunder nm = d) (e2 : dunderR nm = r) (e3 : dunderI nm = i) (first : PySem.W.selfFirst K C = true) (hs : PySem.W.findIn K (.ref C) d = some (some (.ref f))) (hf : PySem.W.isFn K (.ref f) = true) (hr : PySem.W.findIn K (.ref C) r = some (some (.ref g))) (hg : PySem.W.isFn K (.ref g) = true) (h1 : PySem.W.findIn K (.type "int") d = some fo) (h2 : PySem.W.findIn K (.type "int") r = some ro) (sub1 : PySem.W.subIn K (.type "int") (.ref C) = some false) (sub2 : PySem.W.subIn K (.ref C) (.type "int") = some false) (ci : PySem.W.clsIn K C = some cd) (mr : cd.mro = [.ref C, .type "object"]) (noF : PySem.W.findIn K (.ref C) i = some none) (noO : PySem.W.findIn K (.type "object") i = some none) : BinF K C f g nm := by
  subst e1 e2 e3
  exact ⟨first, hs, hf, hr, hg, ⟨_, h1⟩, ⟨_, h2⟩, sub1, sub2, ⟨_, ci, mr⟩, noF, noO⟩
theorem all_mk {l : PySem.W.OpenLaw} {w : World} {K : PySem.W.Frag} {h : Heap} {mg : Str → Option Value} {fa : Addr} (X : K.In h) (G : h.Ns mainGlobals mg) (hfa : mg "law" = some (.ref fa))
    {f_is_whole f_is_whole_to f_may_stand f_number_of f__law_bag f__law_draw f__law_same f__law_put f__law_put_in f__law_bits f__law_is_mode f__law_right f_law f_Mode f_ModeD_initD f_Mode_number p_Mode_number f_ModeD_orD f_ModeD_rorD f_ModeD_andD f_ModeD_randD f_ModeD_xorD f_ModeD_rxorD f_ModeD_invertD f_ModeD_containsD f_ModeD_strD k_NINE_BITS x_BadMode x_BadInput x_NoWay x_BadText x_ModesError f_BadModeD_initD f__law_heard cR PR : Addr}
    {od_is_whole : Option Addr} {an_is_whole : Option Addr} {sl_is_whole : Array (Option Value)} {oc_is_whole kV_is_whole dc_is_whole pm_is_whole ct_is_whole : Value} {cd_is_whole : Value} {od_is_whole_to : Option Addr} {an_is_whole_to : Option Addr} {sl_is_whole_to : Array (Option Value)} {oc_is_whole_to kV_is_whole_to dc_is_whole_to pm_is_whole_to ct_is_whole_to : Value} {cd_is_whole_to : Value} {od_may_stand : Option Addr} {an_may_stand : Option Addr} {sl_may_stand : Array (Option Value)} {oc_may_stand kV_may_stand dc_may_stand pm_may_stand ct_may_stand : Value} {cd_may_stand : Value} {od_number_of : Option Addr} {an_number_of : Option Addr} {sl_number_of : Array (Option Value)} {oc_number_of kV_number_of dc_number_of pm_number_of ct_number_of : Value} {cd_number_of : Value} {od__law_bag : Option Addr} {an__law_bag : Option Addr} {sl__law_bag : Array (Option Value)} {oc__law_bag kV__law_bag dc__law_bag pm__law_bag ct__law_bag : Value} {cd__law_bag : Value} {od__law_draw : Option Addr} {an__law_draw : Option Addr} {sl__law_draw : Array (Option Value)} {oc__law_draw kV__law_draw dc__law_draw pm__law_draw ct__law_draw : Value} {cd__law_draw : Value} {od__law_same : Option Addr} {an__law_same : Option Addr} {sl__law_same : Array (Option Value)} {oc__law_same kV__law_same dc__law_same pm__law_same ct__law_same : Value} {cd__law_same : Value} {od__law_put : Option Addr} {an__law_put : Option Addr} {sl__law_put : Array (Option Value)} {oc__law_put kV__law_put dc__law_put pm__law_put ct__law_put : Value} {cd__law_put : Value} {od__law_put_in : Option Addr} {an__law_put_in : Option Addr} {sl__law_put_in : Array (Option Value)} {oc__law_put_in kV__law_put_in dc__law_put_in pm__law_put_in ct__law_put_in : Value} {cd__law_put_in : Value} {od__law_bits : Option Addr} {an__law_bits : Option Addr} {sl__law_bits : Array (Option Value)} {oc__law_bits kV__law_bits dc__law_bits pm__law_bits ct__law_bits : Value} {cd__law_bits : Value} {od__law_is_mode : Option Addr} {an__law_is_mode : Option Addr} {sl__law_is_mode : Array (Option Value)} {oc__law_is_mode kV__law_is_mode dc__law_is_mode pm__law_is_mode ct__law_is_mode : Value} {cd__law_is_mode : Value} {od__law_right : Option Addr} {an__law_right : Option Addr} {sl__law_right : Array (Option Value)} {oc__law_right kV__law_right dc__law_right pm__law_right ct__law_right : Value} {od_law : Option Addr} {an_law : Option Addr} {sl_law : Array (Option Value)} {oc_law kV_law dc_law pm_law ct_law : Value} {cd_law : Value} {od_ModeD_initD : Option Addr} {an_ModeD_initD : Option Addr} {sl_ModeD_initD : Array (Option Value)} {oc_ModeD_initD kV_ModeD_initD dc_ModeD_initD pm_ModeD_initD ct_ModeD_initD : Value} {cd_ModeD_initD : Value} {re_Mode_number : List Value} {od_Mode_number : Option Addr} {an_Mode_number : Option Addr} {sl_Mode_number : Array (Option Value)} {oc_Mode_number kV_Mode_number dc_Mode_number pm_Mode_number ct_Mode_number : Value} {cd_Mode_number : Value} {od_ModeD_orD : Option Addr} {an_ModeD_orD : Option Addr} {sl_ModeD_orD : Array (Option Value)} {oc_ModeD_orD kV_ModeD_orD dc_ModeD_orD pm_ModeD_orD ct_ModeD_orD : Value} {cd_ModeD_orD : Value} {od_ModeD_rorD : Option Addr} {an_ModeD_rorD : Option Addr} {sl_ModeD_rorD : Array (Option Value)} {oc_ModeD_rorD kV_ModeD_rorD dc_ModeD_rorD pm_ModeD_rorD ct_ModeD_rorD : Value} {cd_ModeD_rorD : Value} {od_ModeD_andD : Option Addr} {an_ModeD_andD : Option Addr} {sl_ModeD_andD : Array (Option Value)} {oc_ModeD_andD kV_ModeD_andD dc_ModeD_andD pm_ModeD_andD ct_ModeD_andD : Value} {cd_ModeD_andD : Value} {od_ModeD_randD : Option Addr} {an_ModeD_randD : Option Addr} {sl_ModeD_randD : Array (Option Value)} {oc_ModeD_randD kV_ModeD_randD dc_ModeD_randD pm_ModeD_randD ct_ModeD_randD : Value} {cd_ModeD_randD : Value} {od_ModeD_xorD : Option Addr} {an_ModeD_xorD : Option Addr} {sl_ModeD_xorD : Array (Option Value)} {oc_ModeD_xorD kV_ModeD_xorD dc_ModeD_xorD pm_ModeD_xorD ct_ModeD_xorD : Value} {cd_ModeD_xorD : Value} {od_ModeD_rxorD : Option Addr} {an_ModeD_rxorD : Option Addr} {sl_ModeD_rxorD : Array (Option Value)} {oc_ModeD_rxorD kV_ModeD_rxorD dc_ModeD_rxorD pm_ModeD_rxorD ct_ModeD_rxorD : Value} {cd_ModeD_rxorD : Value} {od_ModeD_invertD : Option Addr} {an_ModeD_invertD : Option Addr} {sl_ModeD_invertD : Array (Option Value)} {oc_ModeD_invertD kV_ModeD_invertD dc_ModeD_invertD pm_ModeD_invertD ct_ModeD_invertD : Value} {cd_ModeD_invertD : Value} {od_ModeD_containsD : Option Addr} {an_ModeD_containsD : Option Addr} {sl_ModeD_containsD : Array (Option Value)} {oc_ModeD_containsD kV_ModeD_containsD dc_ModeD_containsD pm_ModeD_containsD ct_ModeD_containsD : Value} {cd_ModeD_containsD : Value} {od_ModeD_strD : Option Addr} {an_ModeD_strD : Option Addr} {sl_ModeD_strD : Array (Option Value)} {oc_ModeD_strD kV_ModeD_strD dc_ModeD_strD pm_ModeD_strD ct_ModeD_strD : Value} {cd_ModeD_strD : Value} {tk_Mode_MOST : Tok} {cd_Mode : PySem.ClassData} {its_NINE_BITS : Array Value} {tn_NINE_BITS : Nat} {tod_NINE_BITS : Option Addr} {tsl_NINE_BITS : Array (Option Value)} {tk_NS : Tok} {nmB qB : Str} {NB : Addr} {bsB bmB : List Value} {snB : List Str} {subB : List Value} {abB : Bool} {colB : Option Bool} {ddB : Option Addr} {m0B m1B m2B m3B m5B : Option Value} {od_BadModeD_initD : Option Addr} {an_BadModeD_initD : Option Addr} {sl_BadModeD_initD : Array (Option Value)} {oc_BadModeD_initD kV_BadModeD_initD dc_BadModeD_initD pm_BadModeD_initD ct_BadModeD_initD : Value} {cd_BadModeD_initD : Value} {cdx_BadInput : PySem.ClassData} {cdx_NoWay : PySem.ClassData} {cdx_BadText : PySem.ClassData} {cdx_ModesError : PySem.ClassData} {od__law_heard : Option Addr} {an__law_heard : Option Addr} {sl__law_heard : Array (Option Value)} {oc__law_heard kV__law_heard dc__law_heard pm__law_heard ct__law_heard : Value} {cd__law_heard : Value} {fo_or ro_or : Option Value} {fo_and ro_and : Option Value} {fo_xor ro_xor : Option Value} {od_cR : Option Addr} {vs_cR : Array Value} {sl_cR : Array (Option Value)}
    (z_ValueError : PySem.W.nsIn K mainGlobals "ValueError" = some none)
    (z_isinstance : PySem.W.nsIn K mainGlobals "isinstance" = some none)
    (z_int : PySem.W.nsIn K mainGlobals "int" = some none)
    (z_bool : PySem.W.nsIn K mainGlobals "bool" = some none)
    (z_str : PySem.W.nsIn K mainGlobals "str" = some none)
    (z_list : PySem.W.nsIn K mainGlobals "list" = some none)
    (z_len : PySem.W.nsIn K mainGlobals "len" = some none)
    (z_abs : PySem.W.nsIn K mainGlobals "abs" = some none)
    (z_range : PySem.W.nsIn K mainGlobals "range" = some none)
    (z_tuple : PySem.W.nsIn K mainGlobals "tuple" = some none)
    (z_zip : PySem.W.nsIn K mainGlobals "zip" = some none)
    (a_is_whole : PySem.W.nsIn K mainGlobals "is_whole" = some (some (.ref f_is_whole)))
    (l_is_whole : K.lookup f_is_whole = some ⟨oc_is_whole, od_is_whole, .func (PySem.W.fnOf "is_whole" "is_whole" (defArgs s_is_whole) (defBody s_is_whole) (defScope s_is_whole) .none kV_is_whole dc_is_whole pm_is_whole an_is_whole cd_is_whole ct_is_whole), sl_is_whole⟩)
    (co_is_whole : PySem.W.codeIn K cd_is_whole "is_whole" = true)
    (kp_is_whole : PySem.W.keepIn K (.ref f_is_whole) = true)
    (a_is_whole_to : PySem.W.nsIn K mainGlobals "is_whole_to" = some (some (.ref f_is_whole_to)))
    (l_is_whole_to : K.lookup f_is_whole_to = some ⟨oc_is_whole_to, od_is_whole_to, .func (PySem.W.fnOf "is_whole_to" "is_whole_to" (defArgs s_is_whole_to) (defBody s_is_whole_to) (defScope s_is_whole_to) .none kV_is_whole_to dc_is_whole_to pm_is_whole_to an_is_whole_to cd_is_whole_to ct_is_whole_to), sl_is_whole_to⟩)
    (co_is_whole_to : PySem.W.codeIn K cd_is_whole_to "is_whole_to" = true)
    (kp_is_whole_to : PySem.W.keepIn K (.ref f_is_whole_to) = true)
    (a_may_stand : PySem.W.nsIn K mainGlobals "may_stand" = some (some (.ref f_may_stand)))
    (l_may_stand : K.lookup f_may_stand = some ⟨oc_may_stand, od_may_stand, .func (PySem.W.fnOf "may_stand" "may_stand" (defArgs s_may_stand) (defBody s_may_stand) (defScope s_may_stand) .none kV_may_stand dc_may_stand pm_may_stand an_may_stand cd_may_stand ct_may_stand), sl_may_stand⟩)
    (co_may_stand : PySem.W.codeIn K cd_may_stand "may_stand" = true)
    (kp_may_stand : PySem.W.keepIn K (.ref f_may_stand) = true)
    (a_number_of : PySem.W.nsIn K mainGlobals "number_of" = some (some (.ref f_number_of)))
    (l_number_of : K.lookup f_number_of = some ⟨oc_number_of, od_number_of, .func (PySem.W.fnOf "number_of" "number_of" (defArgs s_number_of) (defBody s_number_of) (defScope s_number_of) .none kV_number_of dc_number_of pm_number_of an_number_of cd_number_of ct_number_of), sl_number_of⟩)
    (co_number_of : PySem.W.codeIn K cd_number_of "number_of" = true)
    (kp_number_of : PySem.W.keepIn K (.ref f_number_of) = true)
    (a__law_bag : PySem.W.nsIn K mainGlobals "_law_bag" = some (some (.ref f__law_bag)))
    (l__law_bag : K.lookup f__law_bag = some ⟨oc__law_bag, od__law_bag, .func (PySem.W.fnOf "_law_bag" "_law_bag" (defArgs s__law_bag) (defBody s__law_bag) (defScope s__law_bag) .none kV__law_bag dc__law_bag pm__law_bag an__law_bag cd__law_bag ct__law_bag), sl__law_bag⟩)
    (co__law_bag : PySem.W.codeIn K cd__law_bag "_law_bag" = true)
    (kp__law_bag : PySem.W.keepIn K (.ref f__law_bag) = true)
    (a__law_draw : PySem.W.nsIn K mainGlobals "_law_draw" = some (some (.ref f__law_draw)))
    (l__law_draw : K.lookup f__law_draw = some ⟨oc__law_draw, od__law_draw, .func (PySem.W.fnOf "_law_draw" "_law_draw" (defArgs s__law_draw) (defBody s__law_draw) (defScope s__law_draw) .none kV__law_draw dc__law_draw pm__law_draw an__law_draw cd__law_draw ct__law_draw), sl__law_draw⟩)
    (co__law_draw : PySem.W.codeIn K cd__law_draw "_law_draw" = true)
    (kp__law_draw : PySem.W.keepIn K (.ref f__law_draw) = true)
    (a__law_same : PySem.W.nsIn K mainGlobals "_law_same" = some (some (.ref f__law_same)))
    (l__law_same : K.lookup f__law_same = some ⟨oc__law_same, od__law_same, .func (PySem.W.fnOf "_law_same" "_law_same" (defArgs s__law_same) (defBody s__law_same) (defScope s__law_same) .none kV__law_same dc__law_same pm__law_same an__law_same cd__law_same ct__law_same), sl__law_same⟩)
    (co__law_same : PySem.W.codeIn K cd__law_same "_law_same" = true)
    (kp__law_same : PySem.W.keepIn K (.ref f__law_same) = true)
    (a__law_put : PySem.W.nsIn K mainGlobals "_law_put" = some (some (.ref f__law_put)))
    (l__law_put : K.lookup f__law_put = some ⟨oc__law_put, od__law_put, .func (PySem.W.fnOf "_law_put" "_law_put" (defArgs s__law_put) (defBody s__law_put) (defScope s__law_put) .none kV__law_put dc__law_put pm__law_put an__law_put cd__law_put ct__law_put), sl__law_put⟩)
    (co__law_put : PySem.W.codeIn K cd__law_put "_law_put" = true)
    (kp__law_put : PySem.W.keepIn K (.ref f__law_put) = true)
    (a__law_put_in : PySem.W.nsIn K mainGlobals "_law_put_in" = some (some (.ref f__law_put_in)))
    (l__law_put_in : K.lookup f__law_put_in = some ⟨oc__law_put_in, od__law_put_in, .func (PySem.W.fnOf "_law_put_in" "_law_put_in" (defArgs s__law_put_in) (defBody s__law_put_in) (defScope s__law_put_in) .none kV__law_put_in dc__law_put_in pm__law_put_in an__law_put_in cd__law_put_in ct__law_put_in), sl__law_put_in⟩)
    (co__law_put_in : PySem.W.codeIn K cd__law_put_in "_law_put_in" = true)
    (kp__law_put_in : PySem.W.keepIn K (.ref f__law_put_in) = true)
    (a__law_bits : PySem.W.nsIn K mainGlobals "_law_bits" = some (some (.ref f__law_bits)))
    (l__law_bits : K.lookup f__law_bits = some ⟨oc__law_bits, od__law_bits, .func (PySem.W.fnOf "_law_bits" "_law_bits" (defArgs s__law_bits) (defBody s__law_bits) (defScope s__law_bits) .none kV__law_bits dc__law_bits pm__law_bits an__law_bits cd__law_bits ct__law_bits), sl__law_bits⟩)
    (co__law_bits : PySem.W.codeIn K cd__law_bits "_law_bits" = true)
    (kp__law_bits : PySem.W.keepIn K (.ref f__law_bits) = true)
    (a__law_is_mode : PySem.W.nsIn K mainGlobals "_law_is_mode" = some (some (.ref f__law_is_mode)))
    (l__law_is_mode : K.lookup f__law_is_mode = some ⟨oc__law_is_mode, od__law_is_mode, .func (PySem.W.fnOf "_law_is_mode" "_law_is_mode" (defArgs s__law_is_mode) (defBody s__law_is_mode) (defScope s__law_is_mode) .none kV__law_is_mode dc__law_is_mode pm__law_is_mode an__law_is_mode cd__law_is_mode ct__law_is_mode), sl__law_is_mode⟩)
    (co__law_is_mode : PySem.W.codeIn K cd__law_is_mode "_law_is_mode" = true)
    (kp__law_is_mode : PySem.W.keepIn K (.ref f__law_is_mode) = true)
    (a__law_right : PySem.W.nsIn K mainGlobals "_law_right" = some (some (.ref f__law_right)))
    (l__law_right : K.lookup f__law_right = some ⟨oc__law_right, od__law_right, .func (PySem.W.fnOf "_law_right" "_law_right" (defArgs s__law_right) (defBody s__law_right) (defScope s__law_right) .none kV__law_right dc__law_right pm__law_right an__law_right (.ref cR) ct__law_right), sl__law_right⟩)
    (co__law_right : PySem.W.codeIn K (.ref cR) "_law_right" = true)
    (kp__law_right : PySem.W.keepIn K (.ref f__law_right) = true)
    (a_law : PySem.W.nsIn K mainGlobals "law" = some (some (.ref f_law)))
    (l_law : K.lookup f_law = some ⟨oc_law, od_law, .func (PySem.W.fnOf "law" "law" (defArgs s_law) (defBody s_law) (defScope s_law) .none kV_law dc_law pm_law an_law cd_law ct_law), sl_law⟩)
    (co_law : PySem.W.codeIn K cd_law "law" = true)
    (kp_law : PySem.W.keepIn K (.ref f_law) = true)
    (a_Mode : PySem.W.nsIn K mainGlobals "Mode" = some (some (.ref f_Mode)))
    (pg_Mode : PySem.W.plainGet K f_Mode Str.empty = true)
    (hd_Mode : PySem.W.hasDictIn K f_Mode = true)
    (po_Mode : PySem.W.plainOver K f_Mode = true)
    (sa_Mode : PySem.W.findIn K (.ref f_Mode) "__setattr__" = some (some (.builtin "object.__setattr__")))
    (n_number_Mode : PySem.W.findIn K (.ref f_Mode) "_number" = some none)
    (at_ModeD_initD : PySem.W.findIn K (.ref f_Mode) "__init__" = some (some (.ref f_ModeD_initD)))
    (fi_ModeD_initD : PySem.W.isFn K (.ref f_ModeD_initD) = true)
    (l_ModeD_initD : K.lookup f_ModeD_initD = some ⟨oc_ModeD_initD, od_ModeD_initD, .func (PySem.W.fnOf "__init__" "Mode.__init__" (defArgs s_ModeD_initD) (defBody s_ModeD_initD) (defScope s_ModeD_initD) .none kV_ModeD_initD dc_ModeD_initD pm_ModeD_initD an_ModeD_initD cd_ModeD_initD ct_ModeD_initD), sl_ModeD_initD⟩)
    (co_ModeD_initD : PySem.W.codeIn K cd_ModeD_initD "Mode.__init__" = true)
    (kp_ModeD_initD : PySem.W.keepIn K (.ref f_ModeD_initD) = true)
    (mk_Mode : PySem.W.makesIn K f_Mode = true)
    (kc_Mode : PySem.W.keepIn K (.ref f_Mode) = true)
    (at_Mode_number : PySem.W.findIn K (.ref f_Mode) "number" = some (some (.ref p_Mode_number)))
    (ge_Mode_number : PySem.W.specialIn K (.ref p_Mode_number) "__get__" = some (some (.builtin "property.__get__")))
    (ta_Mode_number : PySem.W.takesIn K (.ref p_Mode_number) = some true)
    (rc_Mode_number : PySem.W.recIn K p_Mode_number "property" = some (.ref f_Mode_number :: re_Mode_number))
    (l_Mode_number : K.lookup f_Mode_number = some ⟨oc_Mode_number, od_Mode_number, .func (PySem.W.fnOf "number" "Mode.number" (defArgs s_Mode_number) (defBody s_Mode_number) (defScope s_Mode_number) .none kV_Mode_number dc_Mode_number pm_Mode_number an_Mode_number cd_Mode_number ct_Mode_number), sl_Mode_number⟩)
    (co_Mode_number : PySem.W.codeIn K cd_Mode_number "Mode.number" = true)
    (kp_Mode_number : PySem.W.keepIn K (.ref f_Mode_number) = true)
    (at_ModeD_orD : PySem.W.findIn K (.ref f_Mode) "__or__" = some (some (.ref f_ModeD_orD)))
    (fi_ModeD_orD : PySem.W.isFn K (.ref f_ModeD_orD) = true)
    (l_ModeD_orD : K.lookup f_ModeD_orD = some ⟨oc_ModeD_orD, od_ModeD_orD, .func (PySem.W.fnOf "__or__" "Mode.__or__" (defArgs s_ModeD_orD) (defBody s_ModeD_orD) (defScope s_ModeD_orD) .none kV_ModeD_orD dc_ModeD_orD pm_ModeD_orD an_ModeD_orD cd_ModeD_orD ct_ModeD_orD), sl_ModeD_orD⟩)
    (co_ModeD_orD : PySem.W.codeIn K cd_ModeD_orD "Mode.__or__" = true)
    (kp_ModeD_orD : PySem.W.keepIn K (.ref f_ModeD_orD) = true)
    (at_ModeD_rorD : PySem.W.findIn K (.ref f_Mode) "__ror__" = some (some (.ref f_ModeD_rorD)))
    (fi_ModeD_rorD : PySem.W.isFn K (.ref f_ModeD_rorD) = true)
    (l_ModeD_rorD : K.lookup f_ModeD_rorD = some ⟨oc_ModeD_rorD, od_ModeD_rorD, .func (PySem.W.fnOf "__ror__" "Mode.__ror__" (defArgs s_ModeD_rorD) (defBody s_ModeD_rorD) (defScope s_ModeD_rorD) .none kV_ModeD_rorD dc_ModeD_rorD pm_ModeD_rorD an_ModeD_rorD cd_ModeD_rorD ct_ModeD_rorD), sl_ModeD_rorD⟩)
    (co_ModeD_rorD : PySem.W.codeIn K cd_ModeD_rorD "Mode.__ror__" = true)
    (kp_ModeD_rorD : PySem.W.keepIn K (.ref f_ModeD_rorD) = true)
    (at_ModeD_andD : PySem.W.findIn K (.ref f_Mode) "__and__" = some (some (.ref f_ModeD_andD)))
    (fi_ModeD_andD : PySem.W.isFn K (.ref f_ModeD_andD) = true)
    (l_ModeD_andD : K.lookup f_ModeD_andD = some ⟨oc_ModeD_andD, od_ModeD_andD, .func (PySem.W.fnOf "__and__" "Mode.__and__" (defArgs s_ModeD_andD) (defBody s_ModeD_andD) (defScope s_ModeD_andD) .none kV_ModeD_andD dc_ModeD_andD pm_ModeD_andD an_ModeD_andD cd_ModeD_andD ct_ModeD_andD), sl_ModeD_andD⟩)
    (co_ModeD_andD : PySem.W.codeIn K cd_ModeD_andD "Mode.__and__" = true)
    (kp_ModeD_andD : PySem.W.keepIn K (.ref f_ModeD_andD) = true)
    (at_ModeD_randD : PySem.W.findIn K (.ref f_Mode) "__rand__" = some (some (.ref f_ModeD_randD)))
    (fi_ModeD_randD : PySem.W.isFn K (.ref f_ModeD_randD) = true)
    (l_ModeD_randD : K.lookup f_ModeD_randD = some ⟨oc_ModeD_randD, od_ModeD_randD, .func (PySem.W.fnOf "__rand__" "Mode.__rand__" (defArgs s_ModeD_randD) (defBody s_ModeD_randD) (defScope s_ModeD_randD) .none kV_ModeD_randD dc_ModeD_randD pm_ModeD_randD an_ModeD_randD cd_ModeD_randD ct_ModeD_randD), sl_ModeD_randD⟩)
    (co_ModeD_randD : PySem.W.codeIn K cd_ModeD_randD "Mode.__rand__" = true)
    (kp_ModeD_randD : PySem.W.keepIn K (.ref f_ModeD_randD) = true)
    (at_ModeD_xorD : PySem.W.findIn K (.ref f_Mode) "__xor__" = some (some (.ref f_ModeD_xorD)))
    (fi_ModeD_xorD : PySem.W.isFn K (.ref f_ModeD_xorD) = true)
    (l_ModeD_xorD : K.lookup f_ModeD_xorD = some ⟨oc_ModeD_xorD, od_ModeD_xorD, .func (PySem.W.fnOf "__xor__" "Mode.__xor__" (defArgs s_ModeD_xorD) (defBody s_ModeD_xorD) (defScope s_ModeD_xorD) .none kV_ModeD_xorD dc_ModeD_xorD pm_ModeD_xorD an_ModeD_xorD cd_ModeD_xorD ct_ModeD_xorD), sl_ModeD_xorD⟩)
    (co_ModeD_xorD : PySem.W.codeIn K cd_ModeD_xorD "Mode.__xor__" = true)
    (kp_ModeD_xorD : PySem.W.keepIn K (.ref f_ModeD_xorD) = true)
    (at_ModeD_rxorD : PySem.W.findIn K (.ref f_Mode) "__rxor__" = some (some (.ref f_ModeD_rxorD)))
    (fi_ModeD_rxorD : PySem.W.isFn K (.ref f_ModeD_rxorD) = true)
    (l_ModeD_rxorD : K.lookup f_ModeD_rxorD = some ⟨oc_ModeD_rxorD, od_ModeD_rxorD, .func (PySem.W.fnOf "__rxor__" "Mode.__rxor__" (defArgs s_ModeD_rxorD) (defBody s_ModeD_rxorD) (defScope s_ModeD_rxorD) .none kV_ModeD_rxorD dc_ModeD_rxorD pm_ModeD_rxorD an_ModeD_rxorD cd_ModeD_rxorD ct_ModeD_rxorD), sl_ModeD_rxorD⟩)
    (co_ModeD_rxorD : PySem.W.codeIn K cd_ModeD_rxorD "Mode.__rxor__" = true)
    (kp_ModeD_rxorD : PySem.W.keepIn K (.ref f_ModeD_rxorD) = true)
    (at_ModeD_invertD : PySem.W.findIn K (.ref f_Mode) "__invert__" = some (some (.ref f_ModeD_invertD)))
    (fi_ModeD_invertD : PySem.W.isFn K (.ref f_ModeD_invertD) = true)
    (l_ModeD_invertD : K.lookup f_ModeD_invertD = some ⟨oc_ModeD_invertD, od_ModeD_invertD, .func (PySem.W.fnOf "__invert__" "Mode.__invert__" (defArgs s_ModeD_invertD) (defBody s_ModeD_invertD) (defScope s_ModeD_invertD) .none kV_ModeD_invertD dc_ModeD_invertD pm_ModeD_invertD an_ModeD_invertD cd_ModeD_invertD ct_ModeD_invertD), sl_ModeD_invertD⟩)
    (co_ModeD_invertD : PySem.W.codeIn K cd_ModeD_invertD "Mode.__invert__" = true)
    (kp_ModeD_invertD : PySem.W.keepIn K (.ref f_ModeD_invertD) = true)
    (at_ModeD_containsD : PySem.W.findIn K (.ref f_Mode) "__contains__" = some (some (.ref f_ModeD_containsD)))
    (fi_ModeD_containsD : PySem.W.isFn K (.ref f_ModeD_containsD) = true)
    (l_ModeD_containsD : K.lookup f_ModeD_containsD = some ⟨oc_ModeD_containsD, od_ModeD_containsD, .func (PySem.W.fnOf "__contains__" "Mode.__contains__" (defArgs s_ModeD_containsD) (defBody s_ModeD_containsD) (defScope s_ModeD_containsD) .none kV_ModeD_containsD dc_ModeD_containsD pm_ModeD_containsD an_ModeD_containsD cd_ModeD_containsD ct_ModeD_containsD), sl_ModeD_containsD⟩)
    (co_ModeD_containsD : PySem.W.codeIn K cd_ModeD_containsD "Mode.__contains__" = true)
    (kp_ModeD_containsD : PySem.W.keepIn K (.ref f_ModeD_containsD) = true)
    (at_ModeD_strD : PySem.W.findIn K (.ref f_Mode) "__str__" = some (some (.ref f_ModeD_strD)))
    (fi_ModeD_strD : PySem.W.isFn K (.ref f_ModeD_strD) = true)
    (l_ModeD_strD : K.lookup f_ModeD_strD = some ⟨oc_ModeD_strD, od_ModeD_strD, .func (PySem.W.fnOf "__str__" "Mode.__str__" (defArgs s_ModeD_strD) (defBody s_ModeD_strD) (defScope s_ModeD_strD) .none kV_ModeD_strD dc_ModeD_strD pm_ModeD_strD an_ModeD_strD cd_ModeD_strD ct_ModeD_strD), sl_ModeD_strD⟩)
    (co_ModeD_strD : PySem.W.codeIn K cd_ModeD_strD "Mode.__str__" = true)
    (kp_ModeD_strD : PySem.W.keepIn K (.ref f_ModeD_strD) = true)
    (rd_Mode : PySem.W.readsIn K f_Mode (.type "type") = true)
    (ga_Mode : PySem.W.specialIn K (.ref f_Mode) "__getattribute__" = some (some (.builtin "type.__getattribute__")))
    (cv_Mode_MOST : PySem.W.findCls K (.ref f_Mode) (.type "type") "MOST" = some (.val (.int 511 tk_Mode_MOST)))
    (ia_Mode : PySem.W.findIn K (.ref f_Mode) "__class__" = some (some (.builtin "object.__class__")))
    (im_Mode : PySem.W.mroIn K f_Mode (.type "object") = some true)
    (ci_Mode : PySem.W.clsIn K f_Mode = some cd_Mode)
    (ti_Mode : PySem.W.typeIn K (.ref f_Mode) = some (.type "type"))
    (su_Mode : PySem.W.subIn K (.type "int") (.ref f_Mode) = some false)
    (in0 : PySem.W.specialIn K (.builtin "object.__class__") "__get__" = some (some (.builtin "getset_descriptor.__get__")))
    (it0 : PySem.W.takesIn K (.builtin "object.__class__") = some true)
    (a_NINE_BITS : PySem.W.nsIn K mainGlobals "NINE_BITS" = some (some (.ref k_NINE_BITS)))
    (lt_NINE_BITS : K.lookup k_NINE_BITS = some ⟨.type "tuple", tod_NINE_BITS, .seq its_NINE_BITS tn_NINE_BITS, tsl_NINE_BITS⟩)
    (sz_NINE_BITS : its_NINE_BITS.size ≤ sizeLine)
    (vl_NINE_BITS : Vals ([256, 128, 64, 32, 16, 8, 4, 2, 1].map V.int) its_NINE_BITS.toList)
    (a_NINE_SIGNS : PySem.W.nsIn K mainGlobals "NINE_SIGNS" = some (some (.str "rwxrwxrwx" tk_NS)))
    (a_BadMode : PySem.W.nsIn K mainGlobals "BadMode" = some (some (.ref x_BadMode)))
    (a_BadInput : PySem.W.nsIn K mainGlobals "BadInput" = some (some (.ref x_BadInput)))
    (a_NoWay : PySem.W.nsIn K mainGlobals "NoWay" = some (some (.ref x_NoWay)))
    (a_BadText : PySem.W.nsIn K mainGlobals "BadText" = some (some (.ref x_BadText)))
    (a_ModesError : PySem.W.nsIn K mainGlobals "ModesError" = some (some (.ref x_ModesError)))
    (xl_B : K.lookup x_BadMode = some (excClassObj nmB qB x_BadMode NB bsB bmB true snB subB abB colB ddB m0B m1B m2B m3B m5B "ValueError.__new__"))
    (rf_B : PySem.HandSPX.refsVE bmB = true)
    (sa_B : PySem.W.findIn K (.ref x_BadMode) "__setattr__" = some (some (.builtin "object.__setattr__")))
    (ex_B : PySem.W.subIn K (.ref x_BadMode) (.type "BaseException") = some true)
    (ty_B : PySem.W.typeIn K (.ref x_BadMode) = some (.type "type"))
    (kp_B : PySem.W.keepIn K (.ref x_BadMode) = true)
    (ga_B : PySem.W.findIn K (.ref x_BadMode) "__getattribute__" = some (some (.builtin "BaseException.__getattribute__")))
    (gg_B : PySem.W.findIn K (.ref x_BadMode) "__getattr__" = some none)
    (hd_B : PySem.W.hasDictIn K x_BadMode = true)
    (cc_B : PySem.W.findIn K (.ref x_BadMode) "__class__" = some (some (.builtin "object.__class__")))
    (mr_B : PySem.W.mroIn K x_BadMode (.type "object") = some true)
    (np_B : PySem.W.findIn K (.ref x_BadMode) "part" = some none)
    (in_B : PySem.W.findIn K (.ref x_BadMode) "__init__" = some (some (.ref f_BadModeD_initD)))
    (ti_B : PySem.W.typeIn K (.ref f_BadModeD_initD) = some (.type "function"))
    (l_BadModeD_initD : K.lookup f_BadModeD_initD = some ⟨oc_BadModeD_initD, od_BadModeD_initD, .func (PySem.W.fnOf "__init__" "BadMode.__init__" (defArgs s_BadModeD_initD) (defBody s_BadModeD_initD) (defScope s_BadModeD_initD) .none kV_BadModeD_initD dc_BadModeD_initD pm_BadModeD_initD an_BadModeD_initD cd_BadModeD_initD ct_BadModeD_initD), sl_BadModeD_initD⟩)
    (co_BadModeD_initD : PySem.W.codeIn K cd_BadModeD_initD "BadMode.__init__" = true)
    (kp_BadModeD_initD : PySem.W.keepIn K (.ref f_BadModeD_initD) = true)
    (cix_BadInput : PySem.W.clsIn K x_BadInput = some cdx_BadInput)
    (tix_BadInput : PySem.W.typeIn K (.ref x_BadInput) = some (.type "type"))
    (cix_NoWay : PySem.W.clsIn K x_NoWay = some cdx_NoWay)
    (tix_NoWay : PySem.W.typeIn K (.ref x_NoWay) = some (.type "type"))
    (cix_BadText : PySem.W.clsIn K x_BadText = some cdx_BadText)
    (tix_BadText : PySem.W.typeIn K (.ref x_BadText) = some (.type "type"))
    (cix_ModesError : PySem.W.clsIn K x_ModesError = some cdx_ModesError)
    (tix_ModesError : PySem.W.typeIn K (.ref x_ModesError) = some (.type "type"))
    (sux_BadInput : PySem.W.subIn K (.ref x_BadMode) (.ref x_BadInput) = some true)
    (nex_BadInput : x_BadMode ≠ x_BadInput)
    (sux_NoWay : PySem.W.subIn K (.ref x_BadMode) (.ref x_NoWay) = some false)
    (nex_NoWay : x_BadMode ≠ x_NoWay)
    (sux_BadText : PySem.W.subIn K (.ref x_BadMode) (.ref x_BadText) = some false)
    (nex_BadText : x_BadMode ≠ x_BadText)
    (suv_B : PySem.W.subIn K (.ref x_BadMode) (.type "ValueError") = some true)
    (bex_ME : PySem.W.subIn K (.ref x_ModesError) (.type "BaseException") = some true)
    (sux_ME : PySem.W.subIn K (.ref x_BadMode) (.ref x_ModesError) = some true)
    (a__law_heard : PySem.W.nsIn K mainGlobals "_law_heard" = some (some (.ref f__law_heard)))
    (l__law_heard : K.lookup f__law_heard = some ⟨oc__law_heard, od__law_heard, .func (PySem.W.fnOf "_law_heard" "_law_heard" (defArgs s__law_heard) (defBody s__law_heard) (defScope s__law_heard) .none kV__law_heard dc__law_heard pm__law_heard an__law_heard cd__law_heard ct__law_heard), sl__law_heard⟩)
    (co__law_heard : PySem.W.codeIn K cd__law_heard "_law_heard" = true)
    (kp__law_heard : PySem.W.keepIn K (.ref f__law_heard) = true)
    (bs_or : PySem.W.findIn K (.type "int") "__or__" = some fo_or)
    (br_or : PySem.W.findIn K (.type "int") "__ror__" = some ro_or)
    (bi_or : PySem.W.findIn K (.ref f_Mode) "__ior__" = some none)
    (bo_or : PySem.W.findIn K (.type "object") "__ior__" = some none)
    (bs_and : PySem.W.findIn K (.type "int") "__and__" = some fo_and)
    (br_and : PySem.W.findIn K (.type "int") "__rand__" = some ro_and)
    (bi_and : PySem.W.findIn K (.ref f_Mode) "__iand__" = some none)
    (bo_and : PySem.W.findIn K (.type "object") "__iand__" = some none)
    (bs_xor : PySem.W.findIn K (.type "int") "__xor__" = some fo_xor)
    (br_xor : PySem.W.findIn K (.type "int") "__rxor__" = some ro_xor)
    (bi_xor : PySem.W.findIn K (.ref f_Mode) "__ixor__" = some none)
    (bo_xor : PySem.W.findIn K (.type "object") "__ixor__" = some none)
    (sf_Mode : PySem.W.selfFirst K f_Mode = true)
    (s2_Mode : PySem.W.subIn K (.ref f_Mode) (.type "int") = some false)
    (mr_Mode : cd_Mode.mro = [.ref f_Mode, .type "object"])
    (sn_NoneType : PySem.W.subIn K (.type "NoneType") (.ref f_Mode) = some false)
    (sn_bool : PySem.W.subIn K (.type "bool") (.ref f_Mode) = some false)
    (sn_str : PySem.W.subIn K (.type "str") (.ref f_Mode) = some false)
    (sn_tuple : PySem.W.subIn K (.type "tuple") (.ref f_Mode) = some false)
    (sn_list : PySem.W.subIn K (.type "list") (.ref f_Mode) = some false)
    (sn_dict : PySem.W.subIn K (.type "dict") (.ref f_Mode) = some false)
    (lc_PR : K.lookup cR = some ⟨.type "code", od_cR, .fields vs_cR, sl_cR⟩)
    (v11_PR : vs_cR[11]? = some (.ref PR))
    (ch_PR : PySem.W.codeHdIn K cR PR = true)
    (kl_PR : K.lookup PR = none)
    (tb_PR : h.get? PR = some { cls := .none, data := .fields #[] })
    : LamX.LawAtS l w K CX0 13 63 "_law_script" mg fa h := by
  have e := hfa.symm.trans (PySem.W.mg_of X G a_law)
  obtain rfl : f_law = fa := by cases e; rfl
  have T : Txt w K mg { f_is_whole := f_is_whole, d_is_whole := PySem.W.fnOf "is_whole" "is_whole" (defArgs s_is_whole) (defBody s_is_whole) (defScope s_is_whole) .none kV_is_whole dc_is_whole pm_is_whole an_is_whole cd_is_whole ct_is_whole, f_is_whole_to := f_is_whole_to, d_is_whole_to := PySem.W.fnOf "is_whole_to" "is_whole_to" (defArgs s_is_whole_to) (defBody s_is_whole_to) (defScope s_is_whole_to) .none kV_is_whole_to dc_is_whole_to pm_is_whole_to an_is_whole_to cd_is_whole_to ct_is_whole_to, f_may_stand := f_may_stand, d_may_stand := PySem.W.fnOf "may_stand" "may_stand" (defArgs s_may_stand) (defBody s_may_stand) (defScope s_may_stand) .none kV_may_stand dc_may_stand pm_may_stand an_may_stand cd_may_stand ct_may_stand, f_number_of := f_number_of, d_number_of := PySem.W.fnOf "number_of" "number_of" (defArgs s_number_of) (defBody s_number_of) (defScope s_number_of) .none kV_number_of dc_number_of pm_number_of an_number_of cd_number_of ct_number_of, f__law_bag := f__law_bag, d__law_bag := PySem.W.fnOf "_law_bag" "_law_bag" (defArgs s__law_bag) (defBody s__law_bag) (defScope s__law_bag) .none kV__law_bag dc__law_bag pm__law_bag an__law_bag cd__law_bag ct__law_bag, f__law_draw := f__law_draw, d__law_draw := PySem.W.fnOf "_law_draw" "_law_draw" (defArgs s__law_draw) (defBody s__law_draw) (defScope s__law_draw) .none kV__law_draw dc__law_draw pm__law_draw an__law_draw cd__law_draw ct__law_draw, f__law_same := f__law_same, d__law_same := PySem.W.fnOf "_law_same" "_law_same" (defArgs s__law_same) (defBody s__law_same) (defScope s__law_same) .none kV__law_same dc__law_same pm__law_same an__law_same cd__law_same ct__law_same, f__law_put := f__law_put, d__law_put := PySem.W.fnOf "_law_put" "_law_put" (defArgs s__law_put) (defBody s__law_put) (defScope s__law_put) .none kV__law_put dc__law_put pm__law_put an__law_put cd__law_put ct__law_put, f__law_put_in := f__law_put_in, d__law_put_in := PySem.W.fnOf "_law_put_in" "_law_put_in" (defArgs s__law_put_in) (defBody s__law_put_in) (defScope s__law_put_in) .none kV__law_put_in dc__law_put_in pm__law_put_in an__law_put_in cd__law_put_in ct__law_put_in, f__law_bits := f__law_bits, d__law_bits := PySem.W.fnOf "_law_bits" "_law_bits" (defArgs s__law_bits) (defBody s__law_bits) (defScope s__law_bits) .none kV__law_bits dc__law_bits pm__law_bits an__law_bits cd__law_bits ct__law_bits, f__law_is_mode := f__law_is_mode, d__law_is_mode := PySem.W.fnOf "_law_is_mode" "_law_is_mode" (defArgs s__law_is_mode) (defBody s__law_is_mode) (defScope s__law_is_mode) .none kV__law_is_mode dc__law_is_mode pm__law_is_mode an__law_is_mode cd__law_is_mode ct__law_is_mode, f__law_right := f__law_right, d__law_right := PySem.W.fnOf "_law_right" "_law_right" (defArgs s__law_right) (defBody s__law_right) (defScope s__law_right) .none kV__law_right dc__law_right pm__law_right an__law_right (.ref cR) ct__law_right, f_law := f_law, d_law := PySem.W.fnOf "law" "law" (defArgs s_law) (defBody s_law) (defScope s_law) .none kV_law dc_law pm_law an_law cd_law ct_law, f_Mode := f_Mode, f_ModeD_initD := f_ModeD_initD, d_ModeD_initD := PySem.W.fnOf "__init__" "Mode.__init__" (defArgs s_ModeD_initD) (defBody s_ModeD_initD) (defScope s_ModeD_initD) .none kV_ModeD_initD dc_ModeD_initD pm_ModeD_initD an_ModeD_initD cd_ModeD_initD ct_ModeD_initD, f_Mode_number := f_Mode_number, d_Mode_number := PySem.W.fnOf "number" "Mode.number" (defArgs s_Mode_number) (defBody s_Mode_number) (defScope s_Mode_number) .none kV_Mode_number dc_Mode_number pm_Mode_number an_Mode_number cd_Mode_number ct_Mode_number, p_Mode_number := p_Mode_number, f_ModeD_orD := f_ModeD_orD, d_ModeD_orD := PySem.W.fnOf "__or__" "Mode.__or__" (defArgs s_ModeD_orD) (defBody s_ModeD_orD) (defScope s_ModeD_orD) .none kV_ModeD_orD dc_ModeD_orD pm_ModeD_orD an_ModeD_orD cd_ModeD_orD ct_ModeD_orD, f_ModeD_rorD := f_ModeD_rorD, d_ModeD_rorD := PySem.W.fnOf "__ror__" "Mode.__ror__" (defArgs s_ModeD_rorD) (defBody s_ModeD_rorD) (defScope s_ModeD_rorD) .none kV_ModeD_rorD dc_ModeD_rorD pm_ModeD_rorD an_ModeD_rorD cd_ModeD_rorD ct_ModeD_rorD, f_ModeD_andD := f_ModeD_andD, d_ModeD_andD := PySem.W.fnOf "__and__" "Mode.__and__" (defArgs s_ModeD_andD) (defBody s_ModeD_andD) (defScope s_ModeD_andD) .none kV_ModeD_andD dc_ModeD_andD pm_ModeD_andD an_ModeD_andD cd_ModeD_andD ct_ModeD_andD, f_ModeD_randD := f_ModeD_randD, d_ModeD_randD := PySem.W.fnOf "__rand__" "Mode.__rand__" (defArgs s_ModeD_randD) (defBody s_ModeD_randD) (defScope s_ModeD_randD) .none kV_ModeD_randD dc_ModeD_randD pm_ModeD_randD an_ModeD_randD cd_ModeD_randD ct_ModeD_randD, f_ModeD_xorD := f_ModeD_xorD, d_ModeD_xorD := PySem.W.fnOf "__xor__" "Mode.__xor__" (defArgs s_ModeD_xorD) (defBody s_ModeD_xorD) (defScope s_ModeD_xorD) .none kV_ModeD_xorD dc_ModeD_xorD pm_ModeD_xorD an_ModeD_xorD cd_ModeD_xorD ct_ModeD_xorD, f_ModeD_rxorD := f_ModeD_rxorD, d_ModeD_rxorD := PySem.W.fnOf "__rxor__" "Mode.__rxor__" (defArgs s_ModeD_rxorD) (defBody s_ModeD_rxorD) (defScope s_ModeD_rxorD) .none kV_ModeD_rxorD dc_ModeD_rxorD pm_ModeD_rxorD an_ModeD_rxorD cd_ModeD_rxorD ct_ModeD_rxorD, f_ModeD_invertD := f_ModeD_invertD, d_ModeD_invertD := PySem.W.fnOf "__invert__" "Mode.__invert__" (defArgs s_ModeD_invertD) (defBody s_ModeD_invertD) (defScope s_ModeD_invertD) .none kV_ModeD_invertD dc_ModeD_invertD pm_ModeD_invertD an_ModeD_invertD cd_ModeD_invertD ct_ModeD_invertD, f_ModeD_containsD := f_ModeD_containsD, d_ModeD_containsD := PySem.W.fnOf "__contains__" "Mode.__contains__" (defArgs s_ModeD_containsD) (defBody s_ModeD_containsD) (defScope s_ModeD_containsD) .none kV_ModeD_containsD dc_ModeD_containsD pm_ModeD_containsD an_ModeD_containsD cd_ModeD_containsD ct_ModeD_containsD, f_ModeD_strD := f_ModeD_strD, d_ModeD_strD := PySem.W.fnOf "__str__" "Mode.__str__" (defArgs s_ModeD_strD) (defBody s_ModeD_strD) (defScope s_ModeD_strD) .none kV_ModeD_strD dc_ModeD_strD pm_ModeD_strD an_ModeD_strD cd_ModeD_strD ct_ModeD_strD, k_NINE_BITS := k_NINE_BITS, x_BadMode := x_BadMode, x_BadInput := x_BadInput, x_NoWay := x_NoWay, x_BadText := x_BadText, x_ModesError := x_ModesError, f_BadModeD_initD := f_BadModeD_initD, d_BadModeD_initD := PySem.W.fnOf "__init__" "BadMode.__init__" (defArgs s_BadModeD_initD) (defBody s_BadModeD_initD) (defScope s_BadModeD_initD) .none kV_BadModeD_initD dc_BadModeD_initD pm_BadModeD_initD an_BadModeD_initD cd_BadModeD_initD ct_BadModeD_initD, f__law_heard := f__law_heard, d__law_heard := PySem.W.fnOf "_law_heard" "_law_heard" (defArgs s__law_heard) (defBody s__law_heard) (defScope s__law_heard) .none kV__law_heard dc__law_heard pm__law_heard an__law_heard cd__law_heard ct__law_heard, cR := cR, PR := PR } := {
    b_ValueError := PySem.W.mg_none_of X G z_ValueError,
    b_isinstance := PySem.W.mg_none_of X G z_isinstance,
    b_int := PySem.W.mg_none_of X G z_int,
    b_bool := PySem.W.mg_none_of X G z_bool,
    b_str := PySem.W.mg_none_of X G z_str,
    b_list := PySem.W.mg_none_of X G z_list,
    b_len := PySem.W.mg_none_of X G z_len,
    b_abs := PySem.W.mg_none_of X G z_abs,
    b_range := PySem.W.mg_none_of X G z_range,
    b_tuple := PySem.W.mg_none_of X G z_tuple,
    b_zip := PySem.W.mg_none_of X G z_zip,
    mg_is_whole := PySem.W.mg_of X G a_is_whole,
    fn_is_whole := fun_mk (st := s_is_whole) l_is_whole co_is_whole kp_is_whole,
    mg_is_whole_to := PySem.W.mg_of X G a_is_whole_to,
    fn_is_whole_to := fun_mk (st := s_is_whole_to) l_is_whole_to co_is_whole_to kp_is_whole_to,
    mg_may_stand := PySem.W.mg_of X G a_may_stand,
    fn_may_stand := fun_mk (st := s_may_stand) l_may_stand co_may_stand kp_may_stand,
    mg_number_of := PySem.W.mg_of X G a_number_of,
    fn_number_of := fun_mk (st := s_number_of) l_number_of co_number_of kp_number_of,
    mg__law_bag := PySem.W.mg_of X G a__law_bag,
    fn__law_bag := fun_mk (st := s__law_bag) l__law_bag co__law_bag kp__law_bag,
    mg__law_draw := PySem.W.mg_of X G a__law_draw,
    fn__law_draw := fun_mk (st := s__law_draw) l__law_draw co__law_draw kp__law_draw,
    mg__law_same := PySem.W.mg_of X G a__law_same,
    fn__law_same := fun_mk (st := s__law_same) l__law_same co__law_same kp__law_same,
    mg__law_put := PySem.W.mg_of X G a__law_put,
    fn__law_put := fun_mk (st := s__law_put) l__law_put co__law_put kp__law_put,
    mg__law_put_in := PySem.W.mg_of X G a__law_put_in,
    fn__law_put_in := fun_mk (st := s__law_put_in) l__law_put_in co__law_put_in kp__law_put_in,
    mg__law_bits := PySem.W.mg_of X G a__law_bits,
    fn__law_bits := fun_mk (st := s__law_bits) l__law_bits co__law_bits kp__law_bits,
    mg__law_is_mode := PySem.W.mg_of X G a__law_is_mode,
    fn__law_is_mode := fun_mk (st := s__law_is_mode) l__law_is_mode co__law_is_mode kp__law_is_mode,
    mg__law_right := PySem.W.mg_of X G a__law_right,
    fn__law_right := fun_mk (st := s__law_right) l__law_right co__law_right kp__law_right,
    mg_law := PySem.W.mg_of X G a_law,
    fn_law := fun_mk (st := s_law) l_law co_law kp_law,
    mg_Mode := PySem.W.mg_of X G a_Mode,
    c_Mode := ⟨pg_Mode, hd_Mode, po_Mode, sa_Mode⟩,
    n_number_Mode := n_number_Mode,
    mk_Mode := ⟨mk_Mode, at_ModeD_initD, fi_ModeD_initD, kc_Mode⟩,
    fn_ModeD_initD := fun_mk (st := s_ModeD_initD) l_ModeD_initD co_ModeD_initD kp_ModeD_initD,
    p_Mode_number := ⟨at_Mode_number, ge_Mode_number, ta_Mode_number, ⟨_, rc_Mode_number⟩⟩,
    fn_Mode_number := fun_mk (st := s_Mode_number) l_Mode_number co_Mode_number kp_Mode_number,
    m_ModeD_orD := ⟨at_ModeD_orD, fi_ModeD_orD, kp_ModeD_orD⟩,
    fn_ModeD_orD := fun_mk (st := s_ModeD_orD) l_ModeD_orD co_ModeD_orD kp_ModeD_orD,
    m_ModeD_rorD := ⟨at_ModeD_rorD, fi_ModeD_rorD, kp_ModeD_rorD⟩,
    fn_ModeD_rorD := fun_mk (st := s_ModeD_rorD) l_ModeD_rorD co_ModeD_rorD kp_ModeD_rorD,
    m_ModeD_andD := ⟨at_ModeD_andD, fi_ModeD_andD, kp_ModeD_andD⟩,
    fn_ModeD_andD := fun_mk (st := s_ModeD_andD) l_ModeD_andD co_ModeD_andD kp_ModeD_andD,
    m_ModeD_randD := ⟨at_ModeD_randD, fi_ModeD_randD, kp_ModeD_randD⟩,
    fn_ModeD_randD := fun_mk (st := s_ModeD_randD) l_ModeD_randD co_ModeD_randD kp_ModeD_randD,
    m_ModeD_xorD := ⟨at_ModeD_xorD, fi_ModeD_xorD, kp_ModeD_xorD⟩,
    fn_ModeD_xorD := fun_mk (st := s_ModeD_xorD) l_ModeD_xorD co_ModeD_xorD kp_ModeD_xorD,
    m_ModeD_rxorD := ⟨at_ModeD_rxorD, fi_ModeD_rxorD, kp_ModeD_rxorD⟩,
    fn_ModeD_rxorD := fun_mk (st := s_ModeD_rxorD) l_ModeD_rxorD co_ModeD_rxorD kp_ModeD_rxorD,
    m_ModeD_invertD := ⟨at_ModeD_invertD, fi_ModeD_invertD, kp_ModeD_invertD⟩,
    fn_ModeD_invertD := fun_mk (st := s_ModeD_invertD) l_ModeD_invertD co_ModeD_invertD kp_ModeD_invertD,
    m_ModeD_containsD := ⟨at_ModeD_containsD, fi_ModeD_containsD, kp_ModeD_containsD⟩,
    fn_ModeD_containsD := fun_mk (st := s_ModeD_containsD) l_ModeD_containsD co_ModeD_containsD kp_ModeD_containsD,
    m_ModeD_strD := ⟨at_ModeD_strD, fi_ModeD_strD, kp_ModeD_strD⟩,
    fn_ModeD_strD := fun_mk (st := s_ModeD_strD) l_ModeD_strD co_ModeD_strD kp_ModeD_strD,
    r_Mode := ⟨rd_Mode, ga_Mode⟩,
    k_Mode_MOST := ⟨_, ⟨cv_Mode_MOST, ⟨_, rfl⟩⟩⟩,
    ia_Mode := ia_Mode,
    im_Mode := im_Mode,
    is_Mode := kit_self,
    ii_Mode := kit_no ci_Mode ti_Mode su_Mode,
    in_ := in0,
    it_ := it0,
    mg_NINE_BITS := PySem.W.mg_of X G a_NINE_BITS,
    t_NINE_BITS := fun H => tup_at lt_NINE_BITS sz_NINE_BITS vl_NINE_BITS,
    mg_NINE_SIGNS := ⟨_, PySem.W.mg_of X G a_NINE_SIGNS⟩,
    mg_BadMode := PySem.W.mg_of X G a_BadMode,
    mg_BadInput := PySem.W.mg_of X G a_BadInput,
    mg_NoWay := PySem.W.mg_of X G a_NoWay,
    mg_BadText := PySem.W.mg_of X G a_BadText,
    mg_ModesError := PySem.W.mg_of X G a_ModesError,
    ks_BadInput := kit_ref cix_BadInput tix_BadInput sux_BadInput nex_BadInput,
    ks_NoWay := kit_ref cix_NoWay tix_NoWay sux_NoWay nex_NoWay,
    ks_BadText := kit_ref cix_BadText tix_BadText sux_BadText nex_BadText,
    ks_BadMode := kit_self,
    ks_ValueError := kit_ve suv_B,
    ec_BadMode := ⟨ga_B, gg_B, ex_B, hd_B, cc_B, in0, it0, mr_B⟩,
    ox_BadMode := ⟨⟨_, _, _, _, _, _, _, _, _, _, _, _, _, _, _, xl_B, rf_B⟩, sa_B, ex_B, ty_B, kp_B⟩,
    ic_BadMode := in_B,
    it_BadMode := ti_B,
    np_BadMode := np_B,
    em_BadMode := exm_ref bex_ME cix_ModesError tix_ModesError sux_ME,
    fn_BadModeD_initD := fun_mk (st := s_BadModeD_initD) l_BadModeD_initD co_BadModeD_initD kp_BadModeD_initD,
    mg__law_heard := PySem.W.mg_of X G a__law_heard,
    fn__law_heard := fun_mk (st := s__law_heard) l__law_heard co__law_heard kp__law_heard,
    bf_or := bf_mk (by decide +kernel) (by decide +kernel) (by decide +kernel) sf_Mode at_ModeD_orD fi_ModeD_orD at_ModeD_rorD fi_ModeD_rorD bs_or br_or su_Mode s2_Mode ci_Mode mr_Mode bi_or bo_or,
    bf_and := bf_mk (by decide +kernel) (by decide +kernel) (by decide +kernel) sf_Mode at_ModeD_andD fi_ModeD_andD at_ModeD_randD fi_ModeD_randD bs_and br_and su_Mode s2_Mode ci_Mode mr_Mode bi_and bo_and,
    bf_xor := bf_mk (by decide +kernel) (by decide +kernel) (by decide +kernel) sf_Mode at_ModeD_xorD fi_ModeD_xorD at_ModeD_rxorD fi_ModeD_rxorD bs_xor br_xor su_Mode s2_Mode ci_Mode mr_Mode bi_xor bo_xor,
    nt_NoneType := kit_noT ci_Mode ti_Mode sn_NoneType,
    nt_bool := kit_noT ci_Mode ti_Mode sn_bool,
    nt_str := kit_noT ci_Mode ti_Mode sn_str,
    nt_tuple := kit_noT ci_Mode ti_Mode sn_tuple,
    nt_list := kit_noT ci_Mode ti_Mode sn_list,
    nt_dict := kit_noT ci_Mode ti_Mode sn_dict,
    cr := ⟨_, _, _, _, _, _, _, _, rfl, l__law_right⟩,
    cr_code := co__law_right
  }
  refine ⟨PySem.W.fnOf "law" "law" (defArgs s_law) (defBody s_law) (defScope s_law) .none kV_law dc_law pm_law an_law cd_law ct_law, [(cR, PR)], spLaw K { f_is_whole := f_is_whole, d_is_whole := PySem.W.fnOf "is_whole" "is_whole" (defArgs s_is_whole) (defBody s_is_whole) (defScope s_is_whole) .none kV_is_whole dc_is_whole pm_is_whole an_is_whole cd_is_whole ct_is_whole, f_is_whole_to := f_is_whole_to, d_is_whole_to := PySem.W.fnOf "is_whole_to" "is_whole_to" (defArgs s_is_whole_to) (defBody s_is_whole_to) (defScope s_is_whole_to) .none kV_is_whole_to dc_is_whole_to pm_is_whole_to an_is_whole_to cd_is_whole_to ct_is_whole_to, f_may_stand := f_may_stand, d_may_stand := PySem.W.fnOf "may_stand" "may_stand" (defArgs s_may_stand) (defBody s_may_stand) (defScope s_may_stand) .none kV_may_stand dc_may_stand pm_may_stand an_may_stand cd_may_stand ct_may_stand, f_number_of := f_number_of, d_number_of := PySem.W.fnOf "number_of" "number_of" (defArgs s_number_of) (defBody s_number_of) (defScope s_number_of) .none kV_number_of dc_number_of pm_number_of an_number_of cd_number_of ct_number_of, f__law_bag := f__law_bag, d__law_bag := PySem.W.fnOf "_law_bag" "_law_bag" (defArgs s__law_bag) (defBody s__law_bag) (defScope s__law_bag) .none kV__law_bag dc__law_bag pm__law_bag an__law_bag cd__law_bag ct__law_bag, f__law_draw := f__law_draw, d__law_draw := PySem.W.fnOf "_law_draw" "_law_draw" (defArgs s__law_draw) (defBody s__law_draw) (defScope s__law_draw) .none kV__law_draw dc__law_draw pm__law_draw an__law_draw cd__law_draw ct__law_draw, f__law_same := f__law_same, d__law_same := PySem.W.fnOf "_law_same" "_law_same" (defArgs s__law_same) (defBody s__law_same) (defScope s__law_same) .none kV__law_same dc__law_same pm__law_same an__law_same cd__law_same ct__law_same, f__law_put := f__law_put, d__law_put := PySem.W.fnOf "_law_put" "_law_put" (defArgs s__law_put) (defBody s__law_put) (defScope s__law_put) .none kV__law_put dc__law_put pm__law_put an__law_put cd__law_put ct__law_put, f__law_put_in := f__law_put_in, d__law_put_in := PySem.W.fnOf "_law_put_in" "_law_put_in" (defArgs s__law_put_in) (defBody s__law_put_in) (defScope s__law_put_in) .none kV__law_put_in dc__law_put_in pm__law_put_in an__law_put_in cd__law_put_in ct__law_put_in, f__law_bits := f__law_bits, d__law_bits := PySem.W.fnOf "_law_bits" "_law_bits" (defArgs s__law_bits) (defBody s__law_bits) (defScope s__law_bits) .none kV__law_bits dc__law_bits pm__law_bits an__law_bits cd__law_bits ct__law_bits, f__law_is_mode := f__law_is_mode, d__law_is_mode := PySem.W.fnOf "_law_is_mode" "_law_is_mode" (defArgs s__law_is_mode) (defBody s__law_is_mode) (defScope s__law_is_mode) .none kV__law_is_mode dc__law_is_mode pm__law_is_mode an__law_is_mode cd__law_is_mode ct__law_is_mode, f__law_right := f__law_right, d__law_right := PySem.W.fnOf "_law_right" "_law_right" (defArgs s__law_right) (defBody s__law_right) (defScope s__law_right) .none kV__law_right dc__law_right pm__law_right an__law_right (.ref cR) ct__law_right, f_law := f_law, d_law := PySem.W.fnOf "law" "law" (defArgs s_law) (defBody s_law) (defScope s_law) .none kV_law dc_law pm_law an_law cd_law ct_law, f_Mode := f_Mode, f_ModeD_initD := f_ModeD_initD, d_ModeD_initD := PySem.W.fnOf "__init__" "Mode.__init__" (defArgs s_ModeD_initD) (defBody s_ModeD_initD) (defScope s_ModeD_initD) .none kV_ModeD_initD dc_ModeD_initD pm_ModeD_initD an_ModeD_initD cd_ModeD_initD ct_ModeD_initD, f_Mode_number := f_Mode_number, d_Mode_number := PySem.W.fnOf "number" "Mode.number" (defArgs s_Mode_number) (defBody s_Mode_number) (defScope s_Mode_number) .none kV_Mode_number dc_Mode_number pm_Mode_number an_Mode_number cd_Mode_number ct_Mode_number, p_Mode_number := p_Mode_number, f_ModeD_orD := f_ModeD_orD, d_ModeD_orD := PySem.W.fnOf "__or__" "Mode.__or__" (defArgs s_ModeD_orD) (defBody s_ModeD_orD) (defScope s_ModeD_orD) .none kV_ModeD_orD dc_ModeD_orD pm_ModeD_orD an_ModeD_orD cd_ModeD_orD ct_ModeD_orD, f_ModeD_rorD := f_ModeD_rorD, d_ModeD_rorD := PySem.W.fnOf "__ror__" "Mode.__ror__" (defArgs s_ModeD_rorD) (defBody s_ModeD_rorD) (defScope s_ModeD_rorD) .none kV_ModeD_rorD dc_ModeD_rorD pm_ModeD_rorD an_ModeD_rorD cd_ModeD_rorD ct_ModeD_rorD, f_ModeD_andD := f_ModeD_andD, d_ModeD_andD := PySem.W.fnOf "__and__" "Mode.__and__" (defArgs s_ModeD_andD) (defBody s_ModeD_andD) (defScope s_ModeD_andD) .none kV_ModeD_andD dc_ModeD_andD pm_ModeD_andD an_ModeD_andD cd_ModeD_andD ct_ModeD_andD, f_ModeD_randD := f_ModeD_randD, d_ModeD_randD := PySem.W.fnOf "__rand__" "Mode.__rand__" (defArgs s_ModeD_randD) (defBody s_ModeD_randD) (defScope s_ModeD_randD) .none kV_ModeD_randD dc_ModeD_randD pm_ModeD_randD an_ModeD_randD cd_ModeD_randD ct_ModeD_randD, f_ModeD_xorD := f_ModeD_xorD, d_ModeD_xorD := PySem.W.fnOf "__xor__" "Mode.__xor__" (defArgs s_ModeD_xorD) (defBody s_ModeD_xorD) (defScope s_ModeD_xorD) .none kV_ModeD_xorD dc_ModeD_xorD pm_ModeD_xorD an_ModeD_xorD cd_ModeD_xorD ct_ModeD_xorD, f_ModeD_rxorD := f_ModeD_rxorD, d_ModeD_rxorD := PySem.W.fnOf "__rxor__" "Mode.__rxor__" (defArgs s_ModeD_rxorD) (defBody s_ModeD_rxorD) (defScope s_ModeD_rxorD) .none kV_ModeD_rxorD dc_ModeD_rxorD pm_ModeD_rxorD an_ModeD_rxorD cd_ModeD_rxorD ct_ModeD_rxorD, f_ModeD_invertD := f_ModeD_invertD, d_ModeD_invertD := PySem.W.fnOf "__invert__" "Mode.__invert__" (defArgs s_ModeD_invertD) (defBody s_ModeD_invertD) (defScope s_ModeD_invertD) .none kV_ModeD_invertD dc_ModeD_invertD pm_ModeD_invertD an_ModeD_invertD cd_ModeD_invertD ct_ModeD_invertD, f_ModeD_containsD := f_ModeD_containsD, d_ModeD_containsD := PySem.W.fnOf "__contains__" "Mode.__contains__" (defArgs s_ModeD_containsD) (defBody s_ModeD_containsD) (defScope s_ModeD_containsD) .none kV_ModeD_containsD dc_ModeD_containsD pm_ModeD_containsD an_ModeD_containsD cd_ModeD_containsD ct_ModeD_containsD, f_ModeD_strD := f_ModeD_strD, d_ModeD_strD := PySem.W.fnOf "__str__" "Mode.__str__" (defArgs s_ModeD_strD) (defBody s_ModeD_strD) (defScope s_ModeD_strD) .none kV_ModeD_strD dc_ModeD_strD pm_ModeD_strD an_ModeD_strD cd_ModeD_strD ct_ModeD_strD, k_NINE_BITS := k_NINE_BITS, x_BadMode := x_BadMode, x_BadInput := x_BadInput, x_NoWay := x_NoWay, x_BadText := x_BadText, x_ModesError := x_ModesError, f_BadModeD_initD := f_BadModeD_initD, d_BadModeD_initD := PySem.W.fnOf "__init__" "BadMode.__init__" (defArgs s_BadModeD_initD) (defBody s_BadModeD_initD) (defScope s_BadModeD_initD) .none kV_BadModeD_initD dc_BadModeD_initD pm_BadModeD_initD an_BadModeD_initD cd_BadModeD_initD ct_BadModeD_initD, f__law_heard := f__law_heard, d__law_heard := PySem.W.fnOf "_law_heard" "_law_heard" (defArgs s__law_heard) (defBody s__law_heard) (defScope s__law_heard) .none kV__law_heard dc__law_heard pm__law_heard an__law_heard cd__law_heard ct__law_heard, cR := cR, PR := PR }, fun p hp => ?_, fun p hp => ?_, fun p hp => ?_, fun s v => .of_eq rfl, fun H b ns hl _ hT hS => ⟨b, ns, rfl, hS, hl, hT (cR, PR) (List.mem_singleton.mpr rfl), fun _ => rfl⟩, fun base _ _ TB => ok_law T l_law co_law (TB (cR, PR) (List.mem_singleton.mpr rfl))⟩
  · rw [List.mem_singleton.mp hp]; exact tb_PR
  · rw [List.mem_singleton.mp hp]; exact kl_PR
  · rw [List.mem_singleton.mp hp]; exact PySem.W.codeHd_of_K X ch_PR
end KC
open PySem PySem.W PyProof.Rows
set_option maxRecDepth 100000 in
set_option maxHeartbeats 0 in
theorem PySem.Challenge.cw_modesdown_k03_modes_put_together_holds : PySem.Challenge.rw_modesdown_k03_modes_put_together.Holds := by
  w_on; o_law; k_head; (case hw => w_witness2)
  k_fill
  refine LamX.walk_ofTs (n := 63) (k := 13) (x := "_law_script") (CX := fun _ => L2.CX0) rfl (by decide) rfl ⟨rfl, by decide, by decide⟩ (fun w h Y => PySem.W.km_in_of Y) ?F (fun _ _ _ _ _ z => z)
  case F =>
    intro w mg fa h Y kIn G hmg
    refine' KC.all_mk kIn G hmg ?z_ValueError ?z_isinstance ?z_int ?z_bool ?z_str ?z_list ?z_len ?z_abs ?z_range ?z_tuple ?z_zip ?a_is_whole ?l_is_whole ?co_is_whole ?kp_is_whole ?a_is_whole_to ?l_is_whole_to ?co_is_whole_to ?kp_is_whole_to ?a_may_stand ?l_may_stand ?co_may_stand ?kp_may_stand ?a_number_of ?l_number_of ?co_number_of ?kp_number_of ?a__law_bag ?l__law_bag ?co__law_bag ?kp__law_bag ?a__law_draw ?l__law_draw ?co__law_draw ?kp__law_draw ?a__law_same ?l__law_same ?co__law_same ?kp__law_same ?a__law_put ?l__law_put ?co__law_put ?kp__law_put ?a__law_put_in ?l__law_put_in ?co__law_put_in ?kp__law_put_in ?a__law_bits ?l__law_bits ?co__law_bits ?kp__law_bits ?a__law_is_mode ?l__law_is_mode ?co__law_is_mode ?kp__law_is_mode ?a__law_right ?l__law_right ?co__law_right ?kp__law_right ?a_law ?l_law ?co_law ?kp_law ?a_Mode ?pg_Mode ?hd_Mode ?po_Mode ?sa_Mode ?n_number_Mode ?at_ModeD_initD ?fi_ModeD_initD ?l_ModeD_initD ?co_ModeD_initD ?kp_ModeD_initD ?mk_Mode ?kc_Mode ?at_Mode_number ?ge_Mode_number ?ta_Mode_number ?rc_Mode_number ?l_Mode_number ?co_Mode_number ?kp_Mode_number ?at_ModeD_orD ?fi_ModeD_orD ?l_ModeD_orD ?co_ModeD_orD ?kp_ModeD_orD ?at_ModeD_rorD ?fi_ModeD_rorD ?l_ModeD_rorD ?co_ModeD_rorD ?kp_ModeD_rorD ?at_ModeD_andD ?fi_ModeD_andD ?l_ModeD_andD ?co_ModeD_andD ?kp_ModeD_andD ?at_ModeD_randD ?fi_ModeD_randD ?l_ModeD_randD ?co_ModeD_randD ?kp_ModeD_randD ?at_ModeD_xorD ?fi_ModeD_xorD ?l_ModeD_xorD ?co_ModeD_xorD ?kp_ModeD_xorD ?at_ModeD_rxorD ?fi_ModeD_rxorD ?l_ModeD_rxorD ?co_ModeD_rxorD ?kp_ModeD_rxorD ?at_ModeD_invertD ?fi_ModeD_invertD ?l_ModeD_invertD ?co_ModeD_invertD ?kp_ModeD_invertD ?at_ModeD_containsD ?fi_ModeD_containsD ?l_ModeD_containsD ?co_ModeD_containsD ?kp_ModeD_containsD ?at_ModeD_strD ?fi_ModeD_strD ?l_ModeD_strD ?co_ModeD_strD ?kp_ModeD_strD ?rd_Mode ?ga_Mode ?cv_Mode_MOST ?ia_Mode ?im_Mode ?ci_Mode ?ti_Mode ?su_Mode ?in0 ?it0 ?a_NINE_BITS ?lt_NINE_BITS ?sz_NINE_BITS ?vl_NINE_BITS ?a_NINE_SIGNS ?a_BadMode ?a_BadInput ?a_NoWay ?a_BadText ?a_ModesError ?xl_B ?rf_B ?sa_B ?ex_B ?ty_B ?kp_B ?ga_B ?gg_B ?hd_B ?cc_B ?mr_B ?np_B ?in_B ?ti_B ?l_BadModeD_initD ?co_BadModeD_initD ?kp_BadModeD_initD ?cix_BadInput ?tix_BadInput ?cix_NoWay ?tix_NoWay ?cix_BadText ?tix_BadText ?cix_ModesError ?tix_ModesError ?sux_BadInput ?nex_BadInput ?sux_NoWay ?nex_NoWay ?sux_BadText ?nex_BadText ?suv_B ?bex_ME ?sux_ME ?a__law_heard ?l__law_heard ?co__law_heard ?kp__law_heard ?bs_or ?br_or ?bi_or ?bo_or ?bs_and ?br_and ?bi_and ?bo_and ?bs_xor ?br_xor ?bi_xor ?bo_xor ?sf_Mode ?s2_Mode ?mr_Mode ?sn_NoneType ?sn_bool ?sn_str ?sn_tuple ?sn_list ?sn_dict ?lc_PR ?v11_PR ?ch_PR ?kl_PR ?tb_PR
    (case z_ValueError => k_is)
    (case z_isinstance => k_is)
    (case z_int => k_is)
    (case z_bool => k_is)
    (case z_str => k_is)
    (case z_list => k_is)
    (case z_len => k_is)
    (case z_abs => k_is)
    (case z_range => k_is)
    (case z_tuple => k_is)
    (case z_zip => k_is)
    (case a_is_whole => k_is)
    (case l_is_whole => k_is)
    (case co_is_whole => k_is)
    (case kp_is_whole => k_is)
    (case a_is_whole_to => k_is)
    (case l_is_whole_to => k_is)
    (case co_is_whole_to => k_is)
    (case kp_is_whole_to => k_is)
    (case a_may_stand => k_is)
    (case l_may_stand => k_is)
    (case co_may_stand => k_is)
    (case kp_may_stand => k_is)
    (case a_number_of => k_is)
    (case l_number_of => k_is)
    (case co_number_of => k_is)
    (case kp_number_of => k_is)
    (case a__law_bag => k_is)
    (case l__law_bag => k_is)
    (case co__law_bag => k_is)
    (case kp__law_bag => k_is)
    (case a__law_draw => k_is)
    (case l__law_draw => k_is)
    (case co__law_draw => k_is)
    (case kp__law_draw => k_is)
    (case a__law_same => k_is)
    (case l__law_same => k_is)
    (case co__law_same => k_is)
    (case kp__law_same => k_is)
    (case a__law_put => k_is)
    (case l__law_put => k_is)
    (case co__law_put => k_is)
    (case kp__law_put => k_is)
    (case a__law_put_in => k_is)
    (case l__law_put_in => k_is)
    (case co__law_put_in => k_is)
    (case kp__law_put_in => k_is)
    (case a__law_bits => k_is)
    (case l__law_bits => k_is)
    (case co__law_bits => k_is)
    (case kp__law_bits => k_is)
    (case a__law_is_mode => k_is)
    (case l__law_is_mode => k_is)
    (case co__law_is_mode => k_is)
    (case kp__law_is_mode => k_is)
    (case a__law_right => k_is)
    (case l__law_right => k_is)
    (case co__law_right => k_is)
    (case kp__law_right => k_is)
    (case a_law => k_is)
    (case l_law => k_is)
    (case co_law => k_is)
    (case kp_law => k_is)
    (case a_Mode => k_is)
    (case pg_Mode => k_is)
    (case hd_Mode => k_is)
    (case po_Mode => k_is)
    (case sa_Mode => k_is)
    (case n_number_Mode => k_is)
    (case at_ModeD_initD => k_is)
    (case fi_ModeD_initD => k_is)
    (case l_ModeD_initD => k_is)
    (case co_ModeD_initD => k_is)
    (case kp_ModeD_initD => k_is)
    (case mk_Mode => k_is)
    (case kc_Mode => k_is)
    (case at_Mode_number => k_is)
    (case ge_Mode_number => k_is)
    (case ta_Mode_number => k_is)
    (case rc_Mode_number => k_is)
    (case l_Mode_number => k_is)
    (case co_Mode_number => k_is)
    (case kp_Mode_number => k_is)
    (case at_ModeD_orD => k_is)
    (case fi_ModeD_orD => k_is)
    (case l_ModeD_orD => k_is)
    (case co_ModeD_orD => k_is)
    (case kp_ModeD_orD => k_is)
    (case at_ModeD_rorD => k_is)
    (case fi_ModeD_rorD => k_is)
    (case l_ModeD_rorD => k_is)
    (case co_ModeD_rorD => k_is)
    (case kp_ModeD_rorD => k_is)
    (case at_ModeD_andD => k_is)
    (case fi_ModeD_andD => k_is)
    (case l_ModeD_andD => k_is)
    (case co_ModeD_andD => k_is)
    (case kp_ModeD_andD => k_is)
    (case at_ModeD_randD => k_is)
    (case fi_ModeD_randD => k_is)
    (case l_ModeD_randD => k_is)
    (case co_ModeD_randD => k_is)
    (case kp_ModeD_randD => k_is)
    (case at_ModeD_xorD => k_is)
    (case fi_ModeD_xorD => k_is)
    (case l_ModeD_xorD => k_is)
    (case co_ModeD_xorD => k_is)
    (case kp_ModeD_xorD => k_is)
    (case at_ModeD_rxorD => k_is)
    (case fi_ModeD_rxorD => k_is)
    (case l_ModeD_rxorD => k_is)
    (case co_ModeD_rxorD => k_is)
    (case kp_ModeD_rxorD => k_is)
    (case at_ModeD_invertD => k_is)
    (case fi_ModeD_invertD => k_is)
    (case l_ModeD_invertD => k_is)
    (case co_ModeD_invertD => k_is)
    (case kp_ModeD_invertD => k_is)
    (case at_ModeD_containsD => k_is)
    (case fi_ModeD_containsD => k_is)
    (case l_ModeD_containsD => k_is)
    (case co_ModeD_containsD => k_is)
    (case kp_ModeD_containsD => k_is)
    (case at_ModeD_strD => k_is)
    (case fi_ModeD_strD => k_is)
    (case l_ModeD_strD => k_is)
    (case co_ModeD_strD => k_is)
    (case kp_ModeD_strD => k_is)
    (case rd_Mode => k_is)
    (case ga_Mode => k_is)
    (case cv_Mode_MOST => k_is)
    (case ia_Mode => k_is)
    (case im_Mode => k_is)
    (case ci_Mode => k_is)
    (case ti_Mode => k_is)
    (case su_Mode => k_is)
    (case in0 => k_is)
    (case it0 => k_is)
    (case a_NINE_BITS => k_is)
    (case lt_NINE_BITS => k_is)
    (case sz_NINE_BITS => (exact Nat.le_of_lt (L2.small1000 (by decide))))
    (case vl_NINE_BITS => exact (.cons ⟨_, rfl⟩ (.cons ⟨_, rfl⟩ (.cons ⟨_, rfl⟩ (.cons ⟨_, rfl⟩ (.cons ⟨_, rfl⟩ (.cons ⟨_, rfl⟩ (.cons ⟨_, rfl⟩ (.cons ⟨_, rfl⟩ (.cons ⟨_, rfl⟩ .nil))))))))))
    (case a_NINE_SIGNS => k_is)
    (case a_BadMode => k_is)
    (case a_BadInput => k_is)
    (case a_NoWay => k_is)
    (case a_BadText => k_is)
    (case a_ModesError => k_is)
    (case xl_B => k_is)
    (case rf_B => decide +kernel)
    (case sa_B => k_is)
    (case ex_B => k_is)
    (case ty_B => k_is)
    (case kp_B => k_is)
    (case ga_B => k_is)
    (case gg_B => k_is)
    (case hd_B => k_is)
    (case cc_B => k_is)
    (case mr_B => k_is)
    (case np_B => k_is)
    (case in_B => k_is)
    (case ti_B => k_is)
    (case l_BadModeD_initD => k_is)
    (case co_BadModeD_initD => k_is)
    (case kp_BadModeD_initD => k_is)
    (case cix_BadInput => k_is)
    (case tix_BadInput => k_is)
    (case cix_NoWay => k_is)
    (case tix_NoWay => k_is)
    (case cix_BadText => k_is)
    (case tix_BadText => k_is)
    (case cix_ModesError => k_is)
    (case tix_ModesError => k_is)
    (case sux_BadInput => k_is)
    (case nex_BadInput => decide)
    (case sux_NoWay => k_is)
    (case nex_NoWay => decide)
    (case sux_BadText => k_is)
    (case nex_BadText => decide)
    (case suv_B => k_is)
    (case bex_ME => k_is)
    (case sux_ME => k_is)
    (case a__law_heard => k_is)
    (case l__law_heard => k_is)
    (case co__law_heard => k_is)
    (case kp__law_heard => k_is)
    (case bs_or => k_is)
    (case br_or => k_is)
    (case bi_or => k_is)
    (case bo_or => k_is)
    (case bs_and => k_is)
    (case br_and => k_is)
    (case bi_and => k_is)
    (case bo_and => k_is)
    (case bs_xor => k_is)
    (case br_xor => k_is)
    (case bi_xor => k_is)
    (case bo_xor => k_is)
    (case sf_Mode => k_is)
    (case s2_Mode => k_is)
    (case mr_Mode => rfl)
    (case sn_NoneType => k_is)
    (case sn_bool => k_is)
    (case sn_str => k_is)
    (case sn_tuple => k_is)
    (case sn_list => k_is)
    (case sn_dict => k_is)
    (case lc_PR => k_is)
    (case v11_PR => rfl)
    (case ch_PR => kernel_rfl)
    (case kl_PR => first | k_is | kernel_rfl)
    (case tb_PR => exact PySem.W.km_tabs_of Y _ (by k_mem))
